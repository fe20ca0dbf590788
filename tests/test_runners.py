"""Points 78 to 81: what no way of sharing can avoid, and storms against ways."""

import random
import unittest

from drawing import drawn_storm, drawn_table, drawn_way, drawn_word
from helpers import check_plain, check_unchanged, ex
from stillinstep.runners import even_way, fullest_storm, halving_storm, worth
from stillinstep.sharing import after_share, share_run, start_state
from stillinstep.storms import check_storm
from stillinstep.ways import TableWay, Way

# Ways that are lazy, that all go to one place, that leave notes to go by, that wish written places ..
TEXTS = ("0 - 1", "0", "nth(0)", "nth(left - 1)", "me", "me mod places", "nth(me)", "nth(me * left div workers)",
         "(me + left) mod places", "nth(me mod 2)", "pick(place[me], 0 - 1, me)", "nth(me mod left)")


def all_ways(chance, places, workers):
    """Ways with notes and without, and table ways, for these numbers."""
    ways = [even_way()] + [Way(ex(text)) for text in TEXTS]
    ways.append(Way(ex("nth(note[0] mod left)"), notes=1, note=(ex("0"), ex("note[0] + me"))))
    ways.append(Way(ex("note[me mod 2]"), notes=2, note=(ex("me mod 2"), ex("note[me mod 2] + 1"))))
    ways += [drawn_way(chance) for _ in range(6)]
    if places <= 6:
        ways += [drawn_table(chance, places, workers) for _ in range(4)]
    return ways


class Worth(unittest.TestCase):
    def test_worked_by_hand(self):
        self.assertEqual([worth(1, 3), worth(2, 2), worth(4, 4), worth(8, 8)], [3, 3, 9, 24])
        self.assertEqual([worth(1, 1), worth(2, 1), worth(3, 1), worth(16, 1)], [1, 2, 3, 16])
        self.assertEqual([worth(2, 5), worth(3, 5), worth(4, 5), worth(5, 5), worth(6, 5)], [8, 10, 12, 13, 14])

    def test_no_places(self):
        for workers in range(1, 17):
            self.assertEqual(worth(0, workers), 0)
            self.assertIs(type(worth(0, workers)), int)

    def test_each_quotient_is_rounded_up_by_itself(self):
        for workers in range(1, 17):
            total = 0
            for places in range(1, 17):
                least = 0
                while least * places < workers:
                    least += 1
                total += least
                self.assertEqual(check_unchanged(self, worth, places, workers), total)
                self.assertIs(type(worth(places, workers)), int)

    def test_by_name(self):
        self.assertEqual(worth(places=2, workers=2), 3)


class RunnerTests(unittest.TestCase):
    def storm_of(self, function, way, places, workers):
        """A storm of + and - against a way, at the start of each of whose ticks some place is left."""
        storm = check_unchanged(self, function, way, places, workers)
        self.assertIs(type(storm), tuple)
        check_plain(self, storm)
        check_storm(storm, workers)
        self.assertEqual(set("".join(storm)) - set("+-"), set())
        _, spent, ticks = share_run(way, places, workers, storm)
        self.assertEqual(ticks, len(storm))
        return storm, spent


class Fullest(RunnerTests):
    def check(self, way, places, workers):
        storm, spent = self.storm_of(fullest_storm, way, places, workers)
        self.assertGreaterEqual(spent, worth(places, workers))
        self.assertLessEqual(len(storm), worth(places, workers))

    def test_all_small_numbers(self):
        chance = random.Random(79)
        for places in range(1, 7):
            for workers in range(1, 7):
                for way in all_ways(chance, places, workers):
                    self.check(way, places, workers)

    def test_large_numbers(self):
        chance = random.Random(791)
        for places, workers in ((16, 16), (16, 1), (1, 16), (7, 16), (16, 5), (11, 9), (9, 13)):
            for way in all_ways(chance, places, workers):
                self.check(way, places, workers)

    def test_drawn_tables(self):
        chance = random.Random(792)
        for _ in range(200):
            table = drawn_table(chance, chance.randint(1, 6), chance.randint(1, 16))
            self.check(table, table.places, len(table.rows[0]))

    def test_against_the_even_way_just_the_worth_is_spent(self):
        for places in range(1, 17):
            for workers in (1, 2, 3, 8, 15, 16):
                storm = fullest_storm(even_way(), places, workers)
                self.assertEqual(share_run(even_way(), places, workers, storm)[1], worth(places, workers))

    def test_by_name(self):
        self.assertEqual(fullest_storm(way=even_way(), places=1, workers=3), ("+++",))


class EvenWay(unittest.TestCase):
    def test_its_fields(self):
        way = even_way()
        self.assertIs(type(way), Way)
        self.assertEqual(way, Way(ex("nth(me mod left)")))
        check_plain(self, (way.place, way.notes, way.note))

    def check(self, places, workers, storm):
        """What is spent and what is left never come to more than the worth, at no moment."""
        state, spent = start_state(even_way(), places), 0
        for word in storm:
            if 0 in state[0]:
                spent += word.count("+")
            state = after_share(even_way(), places, workers, state, word)
            self.assertLessEqual(spent + worth(state[0].count(0), workers), worth(places, workers))

    def test_drawn_storms_with_cuts(self):
        chance = random.Random(80)
        for places in range(1, 17):
            for workers in (1, 2, 3, 5, 8, 13, 16):
                for finishing in (0.1, 0.5, 0.9):
                    self.check(places, workers, drawn_storm(chance, workers, 25, finishing))

    def test_all_storms_of_small_games(self):
        for places, workers in ((1, 1), (2, 2), (3, 2), (2, 3), (3, 3), (4, 3), (3, 4)):
            greatest = {}

            def rest(state):
                if 0 not in state[0]:
                    return 0
                if state not in greatest:
                    words = [format(number, f"0{workers}b").replace("1", "+").replace("0", "-")
                             for number in range(1, 2 ** workers)]
                    greatest[state] = max(word.count("+") + rest(after_share(even_way(), places, workers, state, word))
                                          for word in words)
                return greatest[state]

            self.assertEqual(rest(start_state(even_way(), places)), worth(places, workers))

    def test_when_all_is_written(self):
        state = ((1, 1), ())
        self.assertEqual(after_share(even_way(), 2, 2, state, "++"), state)


class Halving(RunnerTests):
    def check(self, way, places, workers):
        storm, spent = self.storm_of(halving_storm, way, places, workers)
        halvings = 0
        while 2 ** (halvings + 1) <= places:
            halvings += 1
        self.assertEqual(len(storm), halvings + 1)
        self.assertGreaterEqual(spent, halvings * ((workers + 1) // 2) + workers)

    def test_all_small_numbers(self):
        chance = random.Random(81)
        for places in range(1, 7):
            for workers in range(1, 7):
                for way in all_ways(chance, places, workers):
                    self.check(way, places, workers)

    def test_large_numbers(self):
        chance = random.Random(811)
        for places, workers in ((16, 16), (15, 16), (16, 1), (1, 16), (7, 16), (8, 5), (11, 9), (9, 13)):
            for way in all_ways(chance, places, workers):
                self.check(way, places, workers)

    def test_drawn_tables(self):
        chance = random.Random(812)
        for _ in range(200):
            table = drawn_table(chance, chance.randint(1, 6), chance.randint(1, 16))
            self.check(table, table.places, len(table.rows[0]))

    def test_one_place(self):
        for workers in (1, 2, 16):
            self.assertEqual(halving_storm(even_way(), 1, workers), ("+" * workers,))

    def test_by_name(self):
        self.assertEqual(halving_storm(way=even_way(), places=1, workers=3), ("+++",))


class OtherWays(RunnerTests):
    def test_no_way_is_below_the_worth(self):
        """The greatest bill of every small table is at least the worth."""
        chance = random.Random(782)
        for _ in range(60):
            table = drawn_table(chance, chance.randint(1, 3), chance.randint(1, 3), busy=1)
            places, workers = table.places, len(table.rows[0])
            most = 0
            for _ in range(300):
                storm = [drawn_word(chance, workers, 0.6) for _ in range(12)]
                most = max(most, share_run(table, places, workers, storm)[1])
            _, spent = self.storm_of(fullest_storm, table, places, workers)
            self.assertGreaterEqual(max(most, spent), worth(places, workers))

    def test_a_table_like_the_even_way(self):
        table = TableWay(2, [[0, 1], [1, 1], [0, 0], [-1, -1]])
        self.assertEqual(fullest_storm(table, 2, 2), fullest_storm(even_way(), 2, 2))
        self.assertEqual(halving_storm(table, 2, 2), halving_storm(even_way(), 2, 2))


if __name__ == "__main__":
    unittest.main()
