"""Points 35 to 39: the walk through one part."""

import random
import unittest
from itertools import permutations

from drawing import drawn_crew, drawn_standings, drawn_tick, drawn_works
from helpers import check_plain, check_unchanged
from stillinstep.crews import Crew, bits_crew, leaning_child
from stillinstep.trees import is_under
from stillinstep.walks import start_standing, walk_tick, walk_turn

# Height 2: the leaves are the nodes 4 to 7. Workers 0 and 1 sit at leaf 0, worker 2 at leaf 3.
CREW = Crew(2, (0, 0, 3), ((0, 0, 0), (1, 1, 0), (1, 0, 1)))
WORKS = (1, 2, 1, 3)


def standing(marked, counts, places):
    """A standing of CREW from the list of its marked nodes."""
    return (tuple(1 if node in marked else 0 for node in range(8)), tuple(counts), tuple(places))


class WalkTests(unittest.TestCase):
    """Calls with works as a tuple and as a list, and looks at what is returned."""

    def call(self, function, crew, works, *more):
        results = [check_unchanged(self, function, crew, passed, *more) for passed in (tuple(works), list(works))]
        self.assertEqual(results[0], results[1])
        check_plain(self, results[0])
        return results[0]

    def row(self, *ticks, crew=CREW, works=WORKS):
        """The standing of a row of ticks from the start."""
        now = start_standing(crew)
        for workers in ticks:
            now = self.call(walk_tick, crew, works, now, workers)
        return now


class Start(unittest.TestCase):
    def test_start(self):
        for height in (1, 2, 3, 4):
            crew = bits_crew(height, bits=2)
            found = check_unchanged(self, start_standing, crew)
            self.assertEqual(found, ((0,) * 2 ** (height + 1), (0,) * 2 ** height, (0,) * 4))
            check_plain(self, found)
        self.assertEqual(start_standing(crew=CREW), standing([], (0, 0, 0, 0), (0, 0, 0)))


class Turns(WalkTests):
    def turns(self, now):
        return [self.call(walk_turn, CREW, WORKS, now, worker) for worker in (0, 1, 2)]

    def test_take(self):
        self.assertEqual(self.turns(start_standing(CREW)), [("take", 0, 4), ("take", 0, 4), ("take", 0, 7)])

    def test_work(self):
        now = self.row((0, 2))
        self.assertEqual(now, standing([], (0, 0, 0, 0), (4, 0, 7)))
        self.assertEqual(self.turns(now), [("work", 4, 4), ("take", 0, 4), ("work", 7, 7)])

    def test_up_from_a_leaf(self):
        now = self.row((0, 1), (1,))
        self.assertEqual(now, standing([4], (1, 0, 0, 0), (4, 4, 0)))
        self.assertEqual(self.turns(now), [("up", 4, 2), ("up", 4, 2), ("take", 0, 7)])

    def test_down_to_the_only_child_without_a_mark(self):
        now = self.row((0, 1), (0, 1), (0, 1))
        self.assertEqual(now, standing([4], (1, 0, 0, 0), (2, 2, 0)))
        # Worker 1 tries the right child first, worker 0 the left one: the mark decides.
        self.assertEqual(self.turns(now), [("down", 2, 5), ("down", 2, 5), ("take", 0, 7)])

    def test_down_to_the_left_child(self):
        # Worker 2 comes up from the right child of 3 and tries the right one first: only the left one is left.
        now = self.row((2,), (2,), (2,), (2,), (2,))
        self.assertEqual(now, standing([7], (0, 0, 0, 3), (0, 0, 3)))
        self.assertEqual(self.turns(now)[2], ("down", 3, 6))

    def test_mark_and_up_from_an_inner_node(self):
        now = self.row((0, 1), (0,), (0, 1), (0, 1), (0,), (1,), (0, 1))
        self.assertEqual(now, standing([4, 5], (1, 2, 0, 0), (2, 2, 0)))
        self.assertEqual(self.turns(now), [("mark", 2, 2), ("mark", 2, 2), ("take", 0, 7)])
        now = self.call(walk_tick, CREW, WORKS, now, (1,))
        self.assertEqual(now, standing([2, 4, 5], (1, 2, 0, 0), (2, 2, 0)))
        self.assertEqual(self.turns(now)[:2], [("up", 2, 1), ("up", 2, 1)])

    def test_down_to_the_child_that_is_tried_first(self):
        now = self.row((0, 1), (0,), (0, 1), (0, 1), (0,), (1,), (0, 1), (1,), (0, 1))
        self.assertEqual(now, standing([2, 4, 5], (1, 2, 0, 0), (1, 1, 0)))
        self.assertEqual(self.turns(now)[:2], [("down", 1, 3), ("down", 1, 3)])
        now = self.call(walk_tick, CREW, WORKS, now, (1, 0))
        self.assertEqual(self.turns(now)[:2], [("down", 3, 6), ("down", 3, 6)])
        other = Crew(2, CREW.seats, ((0, 0, 1), (1, 1, 0), (1, 0, 1)))
        found = [walk_turn(other, WORKS, now, worker) for worker in (0, 1)]
        self.assertEqual(found, [("down", 3, 7), ("down", 3, 6)])

    def test_idle(self):
        crew = Crew(1, (0, 1, 0), ((0,), (0,), (0,)))
        now = self.row((0, 1), (0, 1), (0,), (0,), crew=crew, works=(1, 1))
        self.assertEqual(now, ((0, 1, 1, 1), (1, 1), (1, 3, 0)))
        found = [self.call(walk_turn, crew, (1, 1), now, worker) for worker in (0, 1, 2)]
        self.assertEqual(found, [("idle", 1, 1), ("idle", 3, 3), ("idle", 0, 0)])

    def test_by_name(self):
        now = start_standing(CREW)
        self.assertEqual(walk_turn(crew=CREW, works=WORKS, standing=now, worker=2), ("take", 0, 7))
        self.assertEqual(walk_tick(crew=CREW, works=WORKS, standing=now, workers=[]), now)


class Ticks(WalkTests):
    def test_several_workers_at_one_leaf(self):
        crew = Crew(1, (1, 1, 1), ((0,), (0,), (0,)))
        now = self.row((0, 1, 2), (0, 1, 2), crew=crew, works=(1, 3))
        self.assertEqual(now, ((0, 0, 0, 0), (0, 1), (3, 3, 3)))
        now = self.call(walk_tick, crew, (1, 3), now, (2, 0))
        self.assertEqual(now, ((0, 0, 0, 0), (0, 2), (3, 3, 3)))
        now = self.call(walk_tick, crew, (1, 3), now, (1, 2))
        self.assertEqual(now, ((0, 0, 0, 1), (0, 3), (3, 3, 3)))

    def test_a_leaf_is_marked_while_others_are_there(self):
        now = self.row((0, 1, 2), (0, 1))
        self.assertEqual(now, standing([4], (1, 0, 0, 0), (4, 4, 7)))
        # Worker 1 goes by the standing before the tick in which worker 0 marks the leaf.
        first = self.row((0, 1), (0,))
        self.assertEqual(self.row((0, 1), (0, 1)), first)

    def test_all_go_by_the_standing_before_the_tick(self):
        crew = Crew(1, (0, 1), ((0,), (0,)))
        now = self.row((0, 1), (0,), (0,), (0, 1), crew=crew, works=(1, 1))
        # Worker 0 goes down to the leaf that worker 1 marks in the same tick.
        self.assertEqual(now, ((0, 0, 1, 1), (1, 1), (3, 3)))
        now = self.call(walk_tick, crew, (1, 1), now, (0, 1))
        self.assertEqual(now, ((0, 0, 1, 1), (1, 1), (1, 1)))

    def test_workers_in_any_order(self):
        chance = random.Random(38)
        for _ in range(20):
            crew = drawn_crew(chance, workers=4)
            works = drawn_works(chance, crew, 3)
            for now in drawn_standings(chance, crew, works):
                workers = chance.sample(range(4), 3)
                found = [walk_tick(crew, works, now, list(order)) for order in permutations(workers)]
                self.assertEqual(found, [found[0]] * 6)

    def test_workers_as_a_list_and_as_a_tuple(self):
        now = start_standing(CREW)
        self.assertEqual(check_unchanged(self, walk_tick, CREW, WORKS, now, [2, 0]),
                         check_unchanged(self, walk_tick, CREW, WORKS, now, (0, 2)))

    def test_no_workers(self):
        chance = random.Random(39)
        for _ in range(20):
            crew = drawn_crew(chance)
            works = drawn_works(chance, crew, 3)
            for now in drawn_standings(chance, crew, works):
                self.assertEqual(self.call(walk_tick, crew, works, now, ()), now)

    def test_a_part_that_is_over(self):
        chance = random.Random(40)
        for _ in range(20):
            crew = drawn_crew(chance)
            works = drawn_works(chance, crew, 3)
            now = drawn_standings(chance, crew, works)[-1]
            self.assertEqual(self.call(walk_tick, crew, works, now, tuple(range(crew.workers))), now)

    def test_the_greatest_works(self):
        crew = Crew(1, (0,), ((0,),))
        now = self.row((0,), *[(0,)] * 15, crew=crew, works=(16, 1))
        self.assertEqual(now, ((0, 0, 0, 0), (15, 0), (2,)))
        now = self.call(walk_tick, crew, (16, 1), now, (0,))
        self.assertEqual(now, ((0, 0, 1, 0), (16, 0), (2,)))

    def test_a_whole_part_of_one_worker(self):
        crew = Crew(1, (1,), ((0,),))
        acts = []
        now = start_standing(crew)
        while not now[0][1]:
            acts.append(walk_turn(crew, (1, 2), now, 0))
            now = walk_tick(crew, (1, 2), now, (0,))
        self.assertEqual(acts, [("take", 0, 3), ("work", 3, 3), ("work", 3, 3), ("up", 3, 1), ("down", 1, 2),
                                ("work", 2, 2), ("up", 2, 1), ("mark", 1, 1)])


class Facts(unittest.TestCase):
    """Point 39, over rows of drawn ticks until the part is over."""

    def setUp(self):
        chance = random.Random(391)
        self.rows = []
        for number in range(60):
            crew = drawn_crew(chance, height=1 + number % 4)
            works = drawn_works(chance, crew, 4)
            standings = [start_standing(crew)]
            turns = []
            while not standings[-1][0][1]:
                workers = drawn_tick(chance, crew)
                turns.append([(w, *walk_turn(crew, works, standings[-1], w)) for w in workers])
                standings.append(walk_tick(crew, works, standings[-1], workers))
            self.rows.append((crew, works, standings, turns))

    def test_the_part_comes_to_its_end(self):
        for crew, works, standings, _ in self.rows:
            done, counts, _ = standings[-1]
            self.assertEqual((done, counts), ((0, *[1] * (2 * crew.leaves - 1)), works))

    def test_marks(self):
        for crew, works, standings, _ in self.rows:
            for done, counts, _ in standings:
                self.assertEqual(done[0], 0)
                for node in range(1, crew.leaves):
                    self.assertTrue(not done[node] or done[2 * node] and done[2 * node + 1])
                for leaf in range(crew.leaves):
                    self.assertEqual(done[crew.leaves + leaf] == 1, counts[leaf] == works[leaf])
            for before, behind in zip(standings, standings[1:]):
                self.assertTrue(all(old <= new for old, new in zip(before[0], behind[0])))
                self.assertTrue(all(old <= new <= old + 1 for old, new in zip(before[1], behind[1])))

    def test_nodes_are_left_upwards_only_and_never_again_entered(self):
        for crew, _, standings, turns in self.rows:
            left = set()
            for now, tick in zip(standings, turns):
                for worker, act, at, to in tick:
                    for node in range(1, 2 * crew.leaves):
                        was, will = at and is_under(at, node), is_under(to, node)
                        if was and not will:
                            self.assertEqual((act, at, now[0][node]), ("up", node, 1))
                            left.add((worker, node))
                        self.assertFalse(will and (worker, node) in left)

    def test_only_acts_change_places(self):
        for _, _, standings, turns in self.rows:
            for before, behind, tick in zip(standings, standings[1:], turns):
                moved = {worker: to for worker, _, _, to in tick}
                self.assertEqual(behind[2], tuple(moved.get(w, place) for w, place in enumerate(before[2])))

    def first_children(self, node, standings):
        """The children of which the fact about the child that is marked first holds."""
        marked = [next((t for t, now in enumerate(standings) if now[0][child]), None)
                  for child in (2 * node, 2 * node + 1)]
        if marked[0] == marked[1]:
            return [2 * node, 2 * node + 1] if marked[0] is not None else []
        return [2 * node if marked[1] is None or marked[0] is not None and marked[0] < marked[1] else 2 * node + 1]

    def test_the_child_that_is_marked_first(self):
        for crew, _, standings, turns in self.rows:
            # Also where only a beginning of the row is done.
            for end in (len(standings) // 2, len(standings)):
                for node in range(1, crew.leaves):
                    for first in self.first_children(node, standings[:end]):
                        self.check_first_child(crew, standings[:end], turns[:end - 1], node, first)

    def check_first_child(self, crew, standings, turns, node, first):
        other = first ^ 1
        barred = {w for w, seat in enumerate(crew.seats) if is_under(crew.leaves + seat, other)}
        for tick in turns:
            for worker, act, _, to in tick:
                if act == "down" and to == node and leaning_child(crew, worker, node) == other:
                    barred.add(worker)
        for _, _, places in standings:
            for worker in barred:
                self.assertFalse(places[worker] and is_under(places[worker], first))

    def test_numbers_of_turns_at_a_node(self):
        for crew, works, _, turns in self.rows:
            spent = {}
            for worker, _, at, _ in (turn for tick in turns for turn in tick):
                spent[worker, at] = spent.get((worker, at), 0) + 1
            for (worker, node), many in spent.items():
                if node == 0:
                    most = 1
                elif node == 1:
                    most = 2
                elif node < crew.leaves:
                    most = 3 if is_under(crew.leaves + crew.seats[worker], node) else 4
                else:
                    most = works[node - crew.leaves] + 1
                self.assertLessEqual(many, most)

    def test_a_tick_with_a_finished_turn_changes_the_standing(self):
        for _, _, standings, turns in self.rows:
            for before, behind, tick in zip(standings, standings[1:], turns):
                self.assertEqual(before != behind, bool(tick))


if __name__ == "__main__":
    unittest.main()
