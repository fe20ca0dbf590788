"""Points 82 to 87: table ways, their dearest bills, papers and storms."""

import random
import unittest
from itertools import combinations, product

from drawing import drawn_table, drawn_way
from helpers import check_plain, check_raises, check_unchanged, ex
from stillinstep.errors import EndlessTable, HasNotes
from stillinstep.runners import even_way, worth
from stillinstep.sharing import after_share, share_run, start_state, wish_of
from stillinstep.storms import check_storm
from stillinstep.tables import dearest_table, endless_storm, is_table_paper, table_of, table_paper, table_storm
from stillinstep.ways import TableWay, Way


def number_of(state):
    """The number of the set of a state."""
    return sum(mark << place for place, mark in enumerate(state[0]))


def searched(table):
    """For each set that a storm reaches, the greatest bill from there, found by all words; None if endless."""
    places, workers = table.places, len(table.rows[0])
    words = ["".join(signs) for signs in product("+-", repeat=workers) if "+" in signs]
    bills, path = {}, set()

    def bill(state):
        number = number_of(state)
        if 0 not in state[0]:
            bills[number] = 0
        if number in bills:
            return bills[number]
        if number in path:
            return None
        path.add(number)
        best = 0
        for word in words:
            rest = bill(after_share(table, places, workers, state, word))
            if rest is None:
                return None
            best = max(best, rest + word.count("+"))
        path.discard(number)
        bills[number] = best
        return best

    if bill(start_state(table, places)) is None:
        return None
    return [bills.get(number) for number in range(2 ** places)]


class TableTests(unittest.TestCase):
    def paper_holds(self, table, paper):
        """What is_table_paper returns, for a tuple and for a list."""
        answers = [check_unchanged(self, is_table_paper, table, kind(paper)) for kind in (tuple, list)]
        self.assertIs(answers[0], answers[1])
        self.assertIn(answers[0], (True, False))
        self.assertIs(type(answers[0]), bool)
        return answers[0]

    def check(self, table):
        """Looks at all that is told about a table; returns its dearest bill."""
        places, workers = table.places, len(table.rows[0])
        wanted = searched(table)
        bill = check_unchanged(self, dearest_table, table)
        paper = check_unchanged(self, table_paper, table)
        if wanted is None:
            self.assertIs(bill, None)
            self.assertIs(paper, None)
            check_raises(self, EndlessTable, {}, table_storm, table)
            self.check_endless(table)
            return None
        check_plain(self, (bill, paper))
        self.assertIs(type(paper), tuple)
        self.assertEqual((bill, list(paper)), (wanted[0], wanted))
        self.assertGreaterEqual(bill, worth(places, workers))
        self.assertIs(self.paper_holds(table, paper), True)
        self.assertIs(check_unchanged(self, endless_storm, table), None)
        storm = check_unchanged(self, table_storm, table)
        self.assertIs(type(storm), tuple)
        check_storm(storm, workers)
        self.assertTrue(all("+" in word and set(word) <= set("+-") for word in storm))
        state, spent, ticks = share_run(table, places, workers, storm)
        self.assertEqual((state[0], spent, ticks), ((1,) * places, bill, len(storm)))
        return bill

    def check_endless(self, table):
        places, workers = table.places, len(table.rows[0])
        pair = check_unchanged(self, endless_storm, table)
        check_plain(self, pair)
        first, again = pair
        self.assertEqual((type(pair), type(first), type(again)), (tuple,) * 3)
        check_storm(first + again, workers)
        self.assertEqual(set("".join(first + again)) - set("+-"), set())
        state, _, _ = share_run(table, places, workers, first)
        self.assertIn(0, state[0])
        self.assertEqual(len(again), 1)
        self.assertIn("+", again[0])
        self.assertEqual(after_share(table, places, workers, state, again[0]), state)


class TableOf(TableTests):
    def make(self, way, places, workers):
        table = check_unchanged(self, table_of, way, places, workers)
        self.assertIs(type(table), TableWay)
        self.assertEqual(table.places, places)
        check_plain(self, table.rows)
        self.assertEqual([len(row) for row in table.rows], [workers] * 2 ** places)
        for number, row in enumerate(table.rows):
            state = (tuple(number >> place & 1 for place in range(places)), ())
            for worker, wish in enumerate(row):
                _, place = wish_of(way, places, workers, state, worker)
                self.assertEqual(wish, -1 if place is None else place)
        return table

    def test_worked_by_hand(self):
        self.assertEqual(self.make(even_way(), 2, 2), TableWay(2, [[0, 1], [1, 1], [0, 0], [-1, -1]]))
        self.assertEqual(self.make(Way(ex("me")), 2, 3), TableWay(2, [[0, 1, -1]] * 4))
        self.assertEqual(self.make(Way(ex("nth(0)")), 1, 1), TableWay(1, [[0], [-1]]))

    def test_a_written_place_stays_as_it_is_wished(self):
        self.assertEqual(self.make(Way(ex("0")), 2, 1), TableWay(2, [[0], [0], [0], [0]]))
        self.assertEqual(self.make(Way(ex("places - left")), 2, 1), TableWay(2, [[0], [1], [1], [-1]]))

    def test_the_full_set(self):
        self.assertEqual(self.make(Way(ex("left")), 1, 2).rows[1], (0, 0))
        self.assertEqual(self.make(Way(ex("left - 1")), 1, 2).rows[1], (-1, -1))

    def test_the_rows_go_by_the_weights_of_the_places(self):
        table = self.make(Way(ex("place[2]")), 3, 1)
        self.assertEqual(table.rows, ((0,),) * 4 + ((1,),) * 4)

    def test_table_ways(self):
        chance = random.Random(82)
        for _ in range(20):
            table = drawn_table(chance, chance.randint(1, 6), chance.randint(1, 16))
            self.assertEqual(self.make(table, table.places, len(table.rows[0])), table)

    def test_drawn_ways(self):
        chance = random.Random(821)
        for _ in range(40):
            self.make(drawn_way(chance, notes=0), chance.randint(1, 6), chance.randint(1, 16))

    def test_a_way_with_note_cells(self):
        for notes in range(1, 5):
            for note in (None, (ex("0"), ex("1"))):
                check_raises(self, HasNotes, {}, table_of, Way(ex("me"), notes=notes, note=note), 2, 2)

    def test_a_way_that_could_write_no_note(self):
        self.assertEqual(self.make(Way(ex("note[0]"), note=(ex("0"), ex("1"))), 1, 1), TableWay(1, [[0], [0]]))

    def test_by_name(self):
        self.assertEqual(table_of(way=even_way(), places=1, workers=1), TableWay(1, [[0], [-1]]))


class Bills(TableTests):
    def test_worked_by_hand(self):
        self.assertEqual(self.check(table_of(even_way(), 2, 2)), 3)
        self.assertEqual(table_paper(table_of(even_way(), 2, 2)), (3, 2, 2, 0))
        self.assertIs(self.check(TableWay(1, [[-1, 0], [0, 0]])), None)
        self.assertEqual(self.check(TableWay(1, [[0, 0, 0], [-1, 0, 0]])), 3)
        # All go to place 0, then all to place 1: the set 2 cannot be reached, its row does not matter.
        self.assertEqual(self.check(TableWay(2, [[0, 0], [1, 1], [-1, 1], [0, 0]])), 4)
        self.assertEqual(table_paper(TableWay(2, [[0, 0], [1, 1], [-1, 1], [0, 0]])), (4, 2, None, 0))

    def test_sets_where_somebody_is_idle(self):
        # At the start, behind place 0, behind place 1, by -1 and by a written place.
        self.assertIs(self.check(TableWay(2, [[0, -1], [1, 1], [0, 0], [0, 0]])), None)
        self.assertIs(self.check(TableWay(2, [[0, 1], [1, -1], [0, 0], [0, 0]])), None)
        self.assertIs(self.check(TableWay(2, [[0, 1], [1, 1], [0, -1], [0, 0]])), None)
        self.assertIs(self.check(TableWay(2, [[0, 1], [1, 0], [0, 0], [0, 0]])), None)
        self.assertIs(self.check(TableWay(2, [[0, 1], [1, 1], [1, 0], [0, 0]])), None)
        # At the full set nobody is idle.
        self.assertEqual(self.check(TableWay(2, [[0, 1], [1, 1], [0, 0], [-1, -1]])), 3)

    def test_an_example_of_an_endless_pair(self):
        self.assertEqual(endless_storm(TableWay(1, [[-1, 0], [0, 0]])), ((), ("+-",)))

    def test_all_small_tables(self):
        endless = 0
        for places, workers in ((1, 1), (1, 2), (1, 3), (2, 1), (2, 2)):
            for wishes in product(range(-1, places), repeat=workers * 2 ** places):
                rows = [wishes[begin:begin + workers] for begin in range(0, len(wishes), workers)]
                endless += self.check(TableWay(places, rows)) is None
        self.assertGreater(endless, 1000)

    def test_drawn_tables(self):
        chance = random.Random(83)
        found = [self.check(drawn_table(chance, chance.randint(2, 4), chance.randint(1, 4), busy=0.7))
                 for _ in range(150)]
        self.assertIn(None, found)
        self.assertGreater(len(set(found)), 8)

    def test_the_even_way_has_the_worth(self):
        for places in range(1, 7):
            for workers in range(1, 17):
                table = table_of(even_way(), places, workers)
                self.assertEqual(dearest_table(table), worth(places, workers))
                self.assertEqual(share_run(table, places, workers, table_storm(table))[1], worth(places, workers))

    def test_large_tables(self):
        chance = random.Random(84)
        for _ in range(10):
            table = drawn_table(chance, 6, 16, busy=1)
            bill = dearest_table(table)
            state, spent, _ = share_run(table, 6, 16, table_storm(table))
            self.assertEqual((state[0], spent), ((1,) * 6, bill))
            self.assertGreaterEqual(bill, worth(6, 16))
            self.assertIs(self.paper_holds(table, table_paper(table)), True)
            self.check_endless(drawn_table(chance, 6, 16, busy=0))

    def test_by_name(self):
        table = table_of(even_way(), 2, 2)
        self.assertEqual(dearest_table(table=table), 3)
        self.assertEqual(table_paper(table=table), (3, 2, 2, 0))
        self.assertIs(is_table_paper(table=table, paper=[3, 2, 2, 0]), True)
        self.assertEqual(share_run(table, 2, 2, table_storm(table=table))[1], 3)
        self.assertIs(endless_storm(table=table), None)


def paper_reference(table, paper):
    """What is_table_paper returns, by choices of places instead of workers."""
    places, full = table.places, 2 ** table.places - 1
    if len(paper) != full + 1 or paper[0] is None or any(item is not None and item < 0 for item in paper):
        return False
    for number in range(full):
        if paper[number] is None:
            continue
        row = table.rows[number]
        if any(place == -1 or number >> place & 1 for place in row):
            return False
        wished = sorted(set(row))
        for many in range(1, places + 1):
            for choice in combinations(wished, many):
                behind = number + sum(2 ** place for place in choice)
                if paper[behind] is None:
                    return False
                if paper[number] < paper[behind] + sum(place in choice for place in row):
                    return False
    return True


class Papers(TableTests):
    TABLE = TableWay(2, [[0, 1], [1, 1], [0, 0], [-1, -1]])

    def answer(self, paper, wanted, table=TABLE):
        self.assertIs(self.paper_holds(table, paper), wanted)
        self.assertIs(paper_reference(table, paper), wanted)

    def test_papers_that_hold(self):
        for paper in ((3, 2, 2, 0), (4, 2, 2, 0), (4, 3, 2, 0), (100, 50, 60, 20), (10 ** 12, 2, 2, 0)):
            self.answer(paper, True)

    def test_numbers_that_are_too_small(self):
        for paper in ((2, 2, 2, 0), (3, 1, 2, 0), (3, 2, 1, 0), (3, 3, 2, 0), (3, 2, 2, 1), (2, 1, 1, 0), (0, 0, 0, 0),
                      (3, 2, 2, -1), (-3, 2, 2, 0), (3, -2, 2, 0)):
            self.answer(paper, False)

    def test_sets_without_a_number(self):
        for paper in ((None, 2, 2, 0), (3, None, 2, 0), (3, 2, None, 0), (3, 2, 2, None), (None,) * 4):
            self.answer(paper, False)

    def test_lengths(self):
        for paper in ((), (3,), (3, 2, 2), (3, 2, 2, 0, 0), (3, 2, 2, 0) * 2):
            self.answer(paper, False)

    def test_sets_that_no_storm_reaches(self):
        table = TableWay(2, [[0, 0], [1, 1], [-1, 1], [0, 0]])
        for paper, wanted in (((4, 2, None, 0), True), ((4, 2, 9, 0), False), ((5, 3, None, 1), True),
                              ((4, None, None, 0), False), ((4, 2, None, -1), False), ((4, 2, -1, 0), False)):
            self.answer(paper, wanted, table)
        table = TableWay(2, [[0, 0], [1, 1], [0, 0], [0, 0]])
        for paper, wanted in (((4, 2, None, 0), True), ((4, 2, 2, 0), True), ((4, 2, 1, 0), False)):
            self.answer(paper, wanted, table)

    def test_endless_tables_have_no_paper(self):
        table = TableWay(1, [[-1, 0], [0, 0]])
        for paper in ((1, 0), (9, 0), (9, 9), (9, None), (None, 0)):
            self.answer(paper, False, table)
        chance = random.Random(85)
        for _ in range(60):
            table = drawn_table(chance, 2, 2, busy=0)
            if dearest_table(table) is None:
                for paper in product((None, 0, 2, 5, 9), repeat=4):
                    self.answer(paper, False, table)

    def test_changed_papers(self):
        chance = random.Random(851)
        answers = {True: 0, False: 0}
        for _ in range(60):
            table = drawn_table(chance, chance.randint(1, 4), chance.randint(1, 5), busy=1)
            paper = table_paper(table)
            for _ in range(15):
                changed = list(paper)
                at = chance.choice((0, chance.randrange(len(paper))))
                more = chance.choice((-1, 1, 2))
                changed[at] = None if chance.random() < 0.1 else (changed[at] or 0) + more
                wanted = paper_reference(table, changed)
                answers[wanted] += 1
                self.answer(changed, wanted, table)
        self.assertGreater(min(answers.values()), 100)

    def test_a_paper_that_holds_bounds_every_storm(self):
        chance = random.Random(852)
        held = 0
        for _ in range(400):
            table = drawn_table(chance, chance.randint(1, 2), chance.randint(1, 3), busy=1)
            paper = [chance.choice((None, 0, 1, 2, 3, 4, 5, 6)) for _ in table.rows]
            if self.paper_holds(table, paper):
                held += 1
                self.assertGreaterEqual(paper[0], searched(table)[0])
        self.assertGreater(held, 20)


if __name__ == "__main__":
    unittest.main()
