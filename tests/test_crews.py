"""Points 32 to 34: crews."""

import random
import unittest

from drawing import drawn_crew
from helpers import check_plain, check_raises, check_unchanged
from stillinstep.crews import Crew, bits_crew, leaning_child, seated, unseated_nodes
from stillinstep.errors import BadCrew
from stillinstep.trees import is_under


def rows(many, height):
    """Rows of leanings, all of them 0."""
    return [[0] * (2 ** height - 1) for _ in range(many)]


class Making(unittest.TestCase):
    def refuse(self, field, height, seats, leanings):
        with self.subTest((height, seats)):
            for kind in (list, tuple):
                passed = (height, kind(seats), kind([kind(row) for row in leanings]))
                check_raises(self, BadCrew, {"field": field}, Crew, *passed)

    def test_fields_and_properties(self):
        crew = Crew(2, (3, 0, 3), ((0, 1, 0), (1, 1, 1), (0, 0, 0)))
        self.assertEqual((crew.height, crew.seats, crew.leanings),
                         (2, (3, 0, 3), ((0, 1, 0), (1, 1, 1), (0, 0, 0))))
        self.assertEqual((crew.workers, crew.leaves), (3, 4))

    def test_lists_and_tuples(self):
        for make in (list, tuple):
            for inner in (list, tuple):
                crew = check_unchanged(self, Crew, 1, make((0, 1)), make((inner((0,)), inner((1,)))))
                for value in (crew.height, crew.seats, crew.leanings, crew.workers, crew.leaves):
                    check_plain(self, value)
                self.assertEqual((crew.seats, crew.leanings), ((0, 1), ((0,), (1,))))

    def test_a_list_that_is_changed_afterwards(self):
        seats, leanings = [0, 1], [[0], [1]]
        crew = Crew(1, seats, leanings)
        seats[0] = 1
        seats.append(0)
        leanings[0][0] = 1
        leanings.append([0])
        self.assertEqual((crew.seats, crew.leanings, crew.workers), ((0, 1), ((0,), (1,)), 2))

    def test_by_name(self):
        self.assertEqual(Crew(leanings=[[1]], seats=[1], height=1), Crew(1, (1,), ((1,),)))

    def test_heights(self):
        for height in (1, 2, 3, 4):
            crew = Crew(height, [2 ** height - 1], rows(1, height))
            self.assertEqual((crew.height, crew.leaves), (height, 2 ** height))
        for height in (-5, -1, 0, 5, 6, 100):
            self.refuse("height", height, [0], rows(1, max(0, min(height, 6))))

    def test_numbers_of_seats(self):
        for many in (1, 2, 15, 16):
            self.assertEqual(Crew(1, [1] * many, rows(many, 1)).workers, many)
        for many in (0, 17, 18, 40):
            self.refuse("seats", 1, [1] * many, rows(many, 1))

    def test_seats_that_are_no_leaf(self):
        for height in (1, 2, 3, 4):
            leaves = 2 ** height
            for seat in (0, leaves - 1):
                self.assertEqual(Crew(height, [0, seat], rows(2, height)).seats, (0, seat))
            for seat in (-1, -leaves, leaves, leaves + 1, 2 * leaves):
                self.refuse("seats", height, [seat], rows(1, height))
                self.refuse("seats", height, [0, seat], rows(2, height))
                self.refuse("seats", height, [seat, 0], rows(2, height))

    def test_numbers_of_rows(self):
        for many in (0, 1, 3, 16):
            self.refuse("leanings", 2, [0, 1], rows(many, 2))

    def test_lengths_of_rows(self):
        for height in (1, 2, 3, 4):
            for length in (0, 2 ** height - 2, 2 ** height, 2 ** height + 5):
                for at in (0, 1):
                    leanings = rows(2, height)
                    leanings[at] = [0] * length
                    self.refuse("leanings", height, [0, 1], leanings)

    def test_numbers_that_are_no_leaning(self):
        for number in (2, -1, 3, -2):
            for place in (0, 1, 2):
                for at in (0, 1):
                    leanings = rows(2, 2)
                    leanings[at][place] = number
                    self.refuse("leanings", 2, [0, 1], leanings)

    def test_several_wrong_fields(self):
        self.refuse("height", 0, [], [])
        self.refuse("height", 5, [99], [[2]])
        self.refuse("height", 0, [0], [[2]])
        self.refuse("height", 5, [-1], [])
        self.refuse("seats", 1, [], [[0]])
        self.refuse("seats", 1, [2], [[2]])
        self.refuse("seats", 1, [0] * 17, [])
        self.refuse("seats", 1, [0, -1], [[0]])


class Equality(unittest.TestCase):
    def test_equal_crews(self):
        self.assertTrue(Crew(2, [0, 2], [[0, 0, 0], [1, 0, 0]]) == bits_crew(2, bits=1))
        self.assertFalse(Crew(2, [0, 2], [[0, 0, 0], [1, 0, 0]]) != bits_crew(2, bits=1))
        self.assertTrue(Crew(1, (0,), ([0],)) == Crew(1, [0], ((0,),)))

    def test_crews_that_differ_in_one_field(self):
        crew = Crew(2, [0, 1], [[0, 0, 0], [0, 1, 0]])
        others = [
            Crew(2, [0, 2], [[0, 0, 0], [0, 1, 0]]), Crew(2, [1, 0], [[0, 0, 0], [0, 1, 0]]),
            Crew(2, [0, 1], [[0, 0, 0], [0, 1, 1]]), Crew(2, [0, 1], [[0, 1, 0], [0, 0, 0]]),
            Crew(2, [0], [[0, 0, 0]]), Crew(2, [0, 1, 1], [[0, 0, 0], [0, 1, 0], [0, 1, 0]]),
            Crew(3, [0, 1], [[0] * 7, [0, 1] + [0] * 5]),
        ]
        for other in others:
            self.assertFalse(crew == other)
            self.assertTrue(crew != other)

    def test_the_height_alone(self):
        # No two crews differ in the height alone, so this one is given the other's leanings.
        crew, other = Crew(1, [0], [[0]]), Crew(2, [0], [[0, 0, 0]])
        other.leanings = crew.leanings
        self.assertFalse(crew == other)

    def test_objects_of_other_classes(self):
        class Other:
            height, seats, leanings = 1, (0,), ((0,),)

        crew = Crew(1, [0], [[0]])
        for other in (Other(), (1, (0,), ((0,),)), None, 1, "crew"):
            self.assertFalse(crew == other)
            self.assertTrue(crew != other)


class Asking(unittest.TestCase):
    def test_leaning_child(self):
        crew = Crew(2, [0, 0], [[0, 1, 0], [1, 0, 1]])
        found = [[leaning_child(crew, worker, node) for node in (1, 2, 3)] for worker in (0, 1)]
        self.assertEqual(found, [[2, 5, 6], [3, 4, 7]])
        check_plain(self, tuple(found[0]))
        self.assertEqual(leaning_child(crew=crew, worker=1, node=3), 7)
        crew = Crew(4, [0], [[0] * 7 + [0, 1] * 4])
        self.assertEqual([leaning_child(crew, 0, node) for node in (7, 8, 9, 14, 15)], [14, 16, 19, 28, 31])

    def test_several_workers_on_one_seat_and_leaves_without_a_seat(self):
        crew = Crew(2, [2, 0, 2, 0], rows(4, 2))
        wanted = {1: (0, 1, 2, 3), 2: (1, 3), 3: (0, 2), 4: (1, 3), 5: (), 6: (0, 2), 7: ()}
        self.assertEqual({node: seated(crew, node) for node in wanted}, wanted)
        self.assertEqual(unseated_nodes(crew), (5, 7))
        self.assertEqual(seated(crew=crew, node=6), (0, 2))
        self.assertEqual(unseated_nodes(crew=crew), (5, 7))

    def test_whole_subtrees_without_a_seat(self):
        self.assertEqual(unseated_nodes(Crew(3, [7], rows(1, 3))), (2, 4, 5, 6, 8, 9, 10, 11, 12, 13, 14))
        self.assertEqual(unseated_nodes(Crew(1, [0, 1], rows(2, 1))), ())
        self.assertEqual(unseated_nodes(Crew(4, range(16), rows(16, 4))), ())

    def test_drawn_crews(self):
        chance = random.Random(33)
        for _ in range(100):
            crew = drawn_crew(chance)
            leaves = 2 ** crew.height
            empty = []
            for node in range(1, 2 * leaves):
                wanted = tuple(w for w, seat in enumerate(crew.seats) if is_under(leaves + seat, node))
                found = check_unchanged(self, seated, crew, node)
                self.assertEqual(found, wanted)
                check_plain(self, found)
                empty += [node] if not wanted else []
            self.assertEqual(check_unchanged(self, unseated_nodes, crew), tuple(empty))
            check_plain(self, unseated_nodes(crew))


class ByBits(unittest.TestCase):
    def test_all_heights_and_bits(self):
        for height in (1, 2, 3, 4):
            for bits in (0, 1, 2, 3, 4):
                with self.subTest((height, bits)):
                    crew = bits_crew(height, bits=bits)
                    leaves, many = 2 ** height, 2 ** bits
                    self.assertIs(type(crew), Crew)
                    self.assertEqual((crew.height, crew.workers), (height, many))
                    self.assertEqual(crew.seats, tuple(i * leaves // many for i in range(many)))
                    for i in range(many):
                        wanted = []
                        for depth in range(height):
                            lean = (i // (many // 2 ** (depth + 1))) % 2 if depth < bits else 0
                            wanted += [lean] * 2 ** depth
                        self.assertEqual(crew.leanings[i], tuple(wanted))
                    check_plain(self, (crew.seats, crew.leanings))

    def test_worked_by_hand(self):
        crew = bits_crew(2, bits=1)
        self.assertEqual((crew.seats, crew.leanings), ((0, 2), ((0, 0, 0), (1, 0, 0))))
        crew = bits_crew(1, bits=3)
        self.assertEqual(crew.seats, (0, 0, 0, 0, 1, 1, 1, 1))
        self.assertEqual(crew.leanings, ((0,),) * 4 + ((1,),) * 4)
        crew = bits_crew(2, bits=3)
        self.assertEqual(crew.seats, (0, 0, 1, 1, 2, 2, 3, 3))
        self.assertEqual(crew.leanings[2:6], ((0, 1, 1), (0, 1, 1), (1, 0, 0), (1, 0, 0)))
        self.assertEqual(bits_crew(3, bits=0).leanings, ((0,) * 7,))

    def test_beyond_the_bounds(self):
        for height in (-3, 0, 5, 9):
            for bits in (-1, 0, 4, 5):
                check_raises(self, BadCrew, {"field": "height"}, bits_crew, height, bits=bits)
        for bits in (-3, -1, 5, 9):
            for height in (1, 4):
                check_raises(self, BadCrew, {"field": "bits"}, bits_crew, height, bits=bits)

    def test_bits_stand_behind_a_star(self):
        self.assertEqual(bits_crew(height=1, bits=0), bits_crew(1, bits=0))
        with self.assertRaises(TypeError):
            bits_crew(1, 1)
        with self.assertRaises(TypeError):
            bits_crew(1)


if __name__ == "__main__":
    unittest.main()
