"""Points 72 and 75 to 77: states, wishes, ticks and runs of sharing."""

import random
import unittest

from drawing import drawn_state, drawn_storm, drawn_table, drawn_way, drawn_word
from helpers import check_plain, check_raises, check_unchanged, ex
from stillinstep.errors import BadStorm
from stillinstep.expressions import value_of
from stillinstep.sharing import after_share, share_run, start_state, wish_of
from stillinstep.ways import TableWay, Way

EVEN = Way(ex("nth(me mod left)"))


class Plain:
    """The game played from its rules, one write after the other."""

    def __init__(self, way, places, workers):
        self.way, self.places, self.workers = way, places, workers

    def wish(self, state, worker):
        """The writes of a turn, in their order."""
        written, notes = state
        if isinstance(self.way, TableWay):
            bits = "".join(str(mark) for mark in reversed(written))
            wish = self.way.rows[int(bits, 2)][worker]
            return None, wish if wish >= 0 else None
        names = {"me": worker, "workers": self.workers, "places": self.places,
                 "left": len([mark for mark in written if mark == 0])}
        arrays = {"place": list(written), "note": list(notes)}
        note = None
        if self.way.note:
            index, value = (value_of(part, names, arrays) for part in self.way.note)
            if index in range(self.way.notes):
                note = (index, value)
        place = value_of(self.way.place, names, arrays)
        return note, place if place in range(self.places) else None

    def tick(self, state, word):
        """The state behind a tick."""
        written, notes = list(state[0]), list(state[1])
        for worker in range(self.workers):
            note, place = self.wish(state, worker)
            sign = word[worker]
            if note is not None and (sign == "+" or (sign in "123456789" and place is not None)):
                notes[note[0]] = note[1]
            if place is not None and sign == "+":
                written[place] = 1
        return tuple(written), tuple(notes)


class ShareTests(unittest.TestCase):
    def wish(self, way, places, workers, state, worker):
        wish = check_unchanged(self, wish_of, way, places, workers, state, worker)
        self.assertIs(type(wish), tuple)
        check_plain(self, wish)
        return wish

    def after(self, way, places, workers, state, word):
        behind = check_unchanged(self, after_share, way, places, workers, state, word)
        check_plain(self, behind)
        return behind

    def run_of(self, way, places, workers, storm):
        runs = [check_unchanged(self, share_run, way, places, workers, kind(storm)) for kind in (tuple, list)]
        self.assertEqual(runs[0], runs[1])
        check_plain(self, runs[0])
        self.assertIs(type(runs[0]), tuple)
        return runs[0]


class States(ShareTests):
    def test_start_state(self):
        for places in (1, 2, 16):
            for notes in range(5):
                state = check_unchanged(self, start_state, Way(ex("me"), notes=notes), places)
                self.assertEqual(state, ((0,) * places, (0,) * notes))
                check_plain(self, state)
        for places in (1, 3, 6):
            self.assertEqual(start_state(TableWay(places, [[0]] * 2 ** places), places), ((0,) * places, ()))

    def test_by_name(self):
        self.assertEqual(start_state(way=EVEN, places=2), ((0, 0), ()))
        self.assertEqual(wish_of(way=EVEN, places=2, workers=3, state=((0, 0), ()), worker=1), (None, 1))
        self.assertEqual(after_share(way=EVEN, places=2, workers=1, state=((0, 0), ()), word="+"), ((1, 0), ()))
        self.assertEqual(share_run(way=EVEN, places=2, workers=1, storm=["+"]), (((1, 0), ()), 1, 1))


class Wishes(ShareTests):
    def check(self, text, wanted, places=3, workers=4, state=((0, 1, 0), ()), worker=2):
        self.assertEqual(self.wish(Way(ex(text)), places, workers, state, worker), (None, wanted))

    def test_names(self):
        self.check("me", 2)
        self.check("me", 0, worker=0)
        self.check("workers - 3", 1)
        self.check("places - 1", 2)
        self.check("left", 2)
        self.check("left", 0, state=((1, 1, 1), ()))
        self.check("left", None, state=((0, 0, 0), ()))

    def test_arrays(self):
        self.check("place[0]", 0)
        self.check("place[1]", 1)
        self.check("place[3] + place[0 - 1]", 0)
        # Without note cells a read of the notes gives 0.
        self.check("note[0]", 0)
        self.check("note[3] + 1", 1)

    def test_nth(self):
        self.check("nth(0)", 0)
        self.check("nth(1)", 2)
        self.check("nth(2)", None)
        self.check("nth(0 - 1)", None)
        self.check("nth(0)", None, state=((1, 1, 1), ()))

    def test_no_place(self):
        for text in ("0 - 1", "3", "places", "1000000000000", "0 - 1000000000000"):
            self.check(text, None)

    def test_a_place_that_is_written_already(self):
        self.check("1", 1)
        self.check("me", 2, state=((1, 1, 1), ()))

    def test_notes(self):
        state = ((0, 1, 0), (5, -7))

        def wish(index, value, notes=2, place="1"):
            way = Way(ex(place), notes=notes, note=(ex(index), ex(value)))
            return self.wish(way, 3, 4, state if notes else (state[0], ()), 2)

        self.assertEqual(wish("0", "note[1] - 1"), ((0, -8), 1))
        self.assertEqual(wish("1", "left * 10 + me"), ((1, 22), 1))
        self.assertEqual(wish("1", "left", place="3"), ((1, 2), None))
        self.assertEqual(wish("0", "1000000000000 * 1000000000000"), ((0, 10 ** 12), 1))
        self.assertEqual(wish("note[0] - 5", "0"), ((0, 0), 1))
        for index in ("2", "0 - 1", "1000000000000", "me"):
            self.assertEqual(wish(index, "1"), (None, 1))
        # Without note cells no note is ever written.
        for index in ("0", "1", "0 - 1"):
            self.assertEqual(wish(index, "1", notes=0), (None, 1))

    def test_note_cells_that_are_never_written(self):
        self.assertEqual(self.wish(Way(ex("note[1]"), notes=2), 3, 4, ((0, 0, 0), (9, 2)), 0), (None, 2))

    def test_tables(self):
        table = TableWay(2, [[0, 1, -1], [-1, 1, 0], [0, 0, 0], [1, -1, -1]])
        for written, wishes in (((0, 0), (0, 1, None)), ((1, 0), (None, 1, 0)), ((0, 1), (0, 0, 0)),
                                ((1, 1), (1, None, None))):
            for worker, wish in enumerate(wishes):
                self.assertEqual(self.wish(table, 2, 3, (written, ()), worker), (None, wish))

    def test_drawn_wishes(self):
        chance = random.Random(75)
        for _ in range(300):
            places, workers = chance.randint(1, 16), chance.randint(1, 16)
            way = drawn_way(chance)
            if chance.random() < 0.3:
                places, workers = chance.randint(1, 6), chance.randint(1, 4)
                way = drawn_table(chance, places, workers)
            state = drawn_state(chance, places, 0 if isinstance(way, TableWay) else way.notes)
            for worker in range(workers):
                self.assertEqual(self.wish(way, places, workers, state, worker),
                                 Plain(way, places, workers).wish(state, worker))


class Ticks(ShareTests):
    def test_all_go_by_the_state_before_the_tick(self):
        way = Way(ex("nth(0)"))
        self.assertEqual(self.after(way, 3, 2, ((0, 0, 0), ()), "++"), ((1, 0, 0), ()))
        self.assertEqual(self.after(way, 3, 2, ((1, 0, 0), ()), "-+"), ((1, 1, 0), ()))

    def test_signs_and_a_place_alone(self):
        for sign in "-0123456789":
            self.assertEqual(self.after(EVEN, 2, 1, ((0, 0), ()), sign), ((0, 0), ()))
        self.assertEqual(self.after(EVEN, 2, 1, ((0, 0), ()), "+"), ((1, 0), ()))

    def test_signs_and_a_note_before_a_place(self):
        way = Way(ex("me"), notes=1, note=(ex("0"), ex("7")))
        for sign in "-0":
            self.assertEqual(self.after(way, 2, 1, ((0, 0), (3,)), sign), ((0, 0), (3,)))
        for sign in "123456789":
            self.assertEqual(self.after(way, 2, 1, ((0, 0), (3,)), sign), ((0, 0), (7,)))
        self.assertEqual(self.after(way, 2, 1, ((0, 0), (3,)), "+"), ((1, 0), (7,)))

    def test_signs_and_a_note_alone(self):
        way = Way(ex("0 - 1"), notes=1, note=(ex("0"), ex("7")))
        for sign in "-0123456789":
            self.assertEqual(self.after(way, 2, 1, ((0, 0), (3,)), sign), ((0, 0), (3,)))
        self.assertEqual(self.after(way, 2, 1, ((0, 0), (3,)), "+"), ((0, 0), (7,)))

    def test_signs_and_no_write(self):
        way = Way(ex("9"), notes=1, note=(ex("5"), ex("7")))
        for sign in "+-0123456789":
            self.assertEqual(self.after(way, 2, 1, ((0, 1), (3,)), sign), ((0, 1), (3,)))

    def test_the_greatest_worker_keeps_the_note(self):
        way = Way(ex("0"), notes=2, note=(ex("0"), ex("10 - me")))
        for word, note in (("+++", 8), ("++-", 9), ("+--", 10), ("++1", 8), ("+10", 9), ("---", 3), ("01-", 9)):
            self.assertEqual(self.after(way, 1, 3, ((1,), (3, 4)), word)[1], (note, 4))

    def test_the_writes_of_a_note_and_a_place_do_not_meet(self):
        way = Way(ex("1"), notes=2, note=(ex("1"), ex("0")))
        self.assertEqual(self.after(way, 2, 1, ((0, 0), (4, 4)), "+"), ((0, 1), (4, 0)))

    def test_a_place_that_is_written_already(self):
        self.assertEqual(self.after(Way(ex("0")), 2, 2, ((1, 0), ()), "++"), ((1, 0), ()))

    def test_all_places_are_written_and_notes_change(self):
        way = Way(ex("0"), notes=1, note=(ex("0"), ex("note[0] + 1")))
        self.assertEqual(self.after(way, 2, 2, ((1, 1), (3,)), "++"), ((1, 1), (4,)))
        self.assertEqual(self.after(way, 2, 2, ((1, 1), (3,)), "-5"), ((1, 1), (4,)))

    def test_bad_words(self):
        for word in ("", "+", "+++", "+x", "+ ", "* ", "+\n"):
            check_raises(self, BadStorm, {"tick": 0}, after_share, EVEN, 2, 2, ((0, 0), ()), word)
        table = TableWay(1, [[0, 0], [0, 0]])
        check_raises(self, BadStorm, {"tick": 0}, after_share, table, 1, 2, ((0,), ()), "+")

    def test_drawn_ticks(self):
        chance = random.Random(76)
        for _ in range(300):
            places, workers = chance.randint(1, 16), chance.randint(1, 16)
            way = drawn_way(chance)
            if chance.random() < 0.3:
                places, workers = chance.randint(1, 6), chance.randint(1, 4)
                way = drawn_table(chance, places, workers)
            state = drawn_state(chance, places, 0 if isinstance(way, TableWay) else way.notes)
            for word in (drawn_word(chance, workers), drawn_word(chance, workers, 0), "+" * workers):
                self.assertEqual(self.after(way, places, workers, state, word),
                                 Plain(way, places, workers).tick(state, word))


class Runs(ShareTests):
    def test_worked_by_hand(self):
        self.assertEqual(self.run_of(EVEN, 2, 2, ("+-", "++")), (((1, 1), ()), 3, 2))

    def test_the_empty_storm(self):
        self.assertEqual(self.run_of(EVEN, 2, 2, ()), (((0, 0), ()), 0, 0))
        self.assertEqual(self.run_of(Way(ex("0"), notes=3), 1, 2, ()), (((0,), (0, 0, 0)), 0, 0))

    def test_ticks_without_a_finished_turn_count(self):
        self.assertEqual(self.run_of(EVEN, 2, 2, ("--", "35", "+-")), (((1, 0), ()), 1, 3))

    def test_turns_that_wish_nothing_are_spent(self):
        self.assertEqual(self.run_of(Way(ex("0 - 1")), 2, 3, ("+++", "+-+")), (((0, 0), ()), 5, 2))
        self.assertEqual(self.run_of(Way(ex("0")), 2, 3, ("+++", "+-+")), (((1, 0), ()), 5, 2))
        self.assertEqual(self.run_of(TableWay(1, [[-1, 0], [0, 0]]), 1, 2, ["+-"] * 9), (((0,), ()), 9, 9))

    def test_a_storm_that_goes_on(self):
        self.assertEqual(self.run_of(EVEN, 2, 2, ("++", "++", "+-", "--")), (((1, 1), ()), 2, 1))
        way = Way(ex("me"), notes=1, note=(ex("0"), ex("note[0] + 1")))
        self.assertEqual(self.run_of(way, 2, 2, ("++", "+-", "-3", "++")), (((1, 1), (4,)), 2, 1))

    def test_bad_words(self):
        for tick, storm in ((0, ["+"]), (1, ["++", "+x", ""]), (5, ["++"] * 5 + ["+++"])):
            for kind in (tuple, list):
                check_raises(self, BadStorm, {"tick": tick}, share_run, EVEN, 2, 2, kind(storm))

    def test_drawn_runs(self):
        chance = random.Random(77)
        for _ in range(150):
            places, workers = chance.randint(1, 16), chance.randint(1, 8)
            way = drawn_way(chance)
            if chance.random() < 0.3:
                places = chance.randint(1, 4)
                way = drawn_table(chance, places, workers)
            storm = drawn_storm(chance, workers, chance.randint(0, 25), chance.choice((0.1, 0.8)))
            state, spent, ticks = start_state(way, places), 0, 0
            for word in storm:
                if 0 in state[0]:
                    spent += word.count("+")
                    ticks += 1
                state = Plain(way, places, workers).tick(state, word)
            self.assertEqual(self.run_of(way, places, workers, storm), (state, spent, ticks))


if __name__ == "__main__":
    unittest.main()
