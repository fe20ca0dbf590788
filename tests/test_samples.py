"""Point 88: the sample programs, in the plain run and on the machine."""

import random
import unittest

from drawing import drawn_crew, drawn_storm
from helpers import check_unchanged
from stillinstep.layout import write_program
from stillinstep.lines import read_program
from stillinstep.machines import Machine, start_cells
from stillinstep.memory import array_in, cells_of, offset_of
from stillinstep.plain import plain_run
from stillinstep.runs import run_storm
from stillinstep.samples import (adds_text, brackets_text, cells_text, counts_text, groups_text, order_text, ranks_text,
                                 sort_text, sums_text, top_text, ways_text)

LIMIT = 10 ** 12


class SampleTests(unittest.TestCase):
    def program_of(self, function, *arguments):
        """The program of a text, as read_program reads it."""
        text = check_unchanged(self, function, *arguments)
        self.assertIs(type(text), str)
        made = read_program(text)
        self.assertEqual(read_program(write_program(made)), made)
        return made

    def sizes(self, made, wanted):
        """The named arrays have exactly as many cells as told."""
        sizes = dict(made.arrays)
        for name, size in wanted.items():
            self.assertEqual((name, sizes[name]), (name, size))

    def memory(self, chance, made, arrays):
        """A memory with these arrays and anything in all other cells."""
        data = [chance.choice((0, 1, -1, 5, LIMIT, -LIMIT, chance.randint(-20, 20))) for _ in range(cells_of(made))]
        for name, numbers in arrays.items():
            begin = offset_of(made, name)
            data[begin:begin + len(numbers)] = numbers
        return tuple(data)

    def behind(self, chance, made, arrays, within=60):
        """The memory behind the whole run, which ends within so many steps; sometimes on the machine, too."""
        data = self.memory(chance, made, arrays)
        steps, ended = plain_run(made, data, most=within)
        self.assertIs(ended, True)
        self.assertLessEqual(len(steps), within)
        if chance.random() < 0.03:
            self.on_the_machine(chance, made, data, steps)
        return steps[-1][1]

    def on_the_machine(self, chance, made, data, steps):
        machine = Machine(made, drawn_crew(chance, height=chance.randint(1, 3)))
        cells = start_cells(machine, data)
        done, ended = (), False
        while not ended:
            storm = drawn_storm(chance, machine.crew.workers, 150, chance.choice((0.3, 0.7, 1)))
            report = run_storm(machine, cells, storm)
            cells, ended, done = report.cells, report.ended, done + report.steps
        self.assertEqual(done, steps)

    def check(self, chance, made, arrays, wanted, within=60):
        """The named arrays hold what is told behind the run."""
        data = self.behind(chance, made, arrays, within)
        for name, numbers in wanted.items():
            self.assertEqual((arrays, name, array_in(made, data, name)), (arrays, name, tuple(numbers)))


def drawn_numbers(chance, many, least=-LIMIT, most=LIMIT):
    """Numbers within these bounds: any, small ones, few different ones, those at the bounds, all alike."""
    kind = chance.randrange(5)
    if kind == 0:
        return [chance.randint(least, most) for _ in range(many)]
    if kind == 1:
        return [max(least, min(most, chance.randint(-9, 40))) for _ in range(many)]
    if kind == 2:
        few = [chance.randint(least, most) for _ in range(2)]
        return [chance.choice(few) for _ in range(many)]
    if kind == 3:
        return [chance.choice((least, most)) for _ in range(many)]
    return [chance.choice((least, most, max(least, 0)))] * many


class Sums(SampleTests):
    def test_all_sizes(self):
        chance = random.Random(1)
        for n in range(1, 33):
            made = self.program_of(sums_text, n)
            self.sizes(made, {"a": n})
            for _ in range(8):
                a = drawn_numbers(chance, n, -10 ** 6, 10 ** 6)
                self.check(chance, made, {"a": a}, {"a": [sum(a[:index + 1]) for index in range(n)]})

    def test_by_hand(self):
        made = read_program(sums_text(n=4))
        self.check(random.Random(2), made, {"a": [3, -1, 4, 1]}, {"a": [3, 2, 6, 7]})


class Sort(SampleTests):
    def test_all_sizes(self):
        chance = random.Random(3)
        for n in range(1, 17):
            made = self.program_of(sort_text, n)
            self.sizes(made, {"a": n})
            for _ in range(25):
                a = drawn_numbers(chance, n)
                self.check(chance, made, {"a": a}, {"a": sorted(a)})
            for a in (list(range(n)), list(range(n))[::-1]):
                self.check(chance, made, {"a": a}, {"a": sorted(a)})

    def test_all_zeros_and_ones(self):
        chance = random.Random(31)
        for n in range(1, 9):
            made = self.program_of(sort_text, n)
            for number in range(2 ** n):
                a = [number >> bit & 1 for bit in range(n)]
                self.check(chance, made, {"a": a}, {"a": sorted(a)})

    def test_by_name(self):
        self.assertEqual(sort_text(n=3), sort_text(3))


class Ranks(SampleTests):
    def check_ranks(self, chance, made, after):
        ranks, ends = [], []
        for index in range(len(after)):
            rank = 0
            while after[index] != index:
                rank, index = rank + 1, after[index]
            ranks.append(rank)
            ends.append(index)
        self.check(chance, made, {"after": after}, {"rank": ranks, "after": ends})

    def test_all_sizes(self):
        chance = random.Random(4)
        for n in range(1, 17):
            made = self.program_of(ranks_text, n)
            self.sizes(made, {"after": n, "rank": n})
            for _ in range(20):
                order = chance.sample(range(n), n)
                after = [0] * n
                for at, index in enumerate(order):
                    # Each goes to an earlier one of the order, or to itself.
                    after[index] = order[chance.randint(max(0, at - chance.choice((1, 1, 3, n))), at)]
                self.check_ranks(chance, made, after)

    def test_one_long_row(self):
        chance = random.Random(41)
        for n in range(1, 17):
            made = self.program_of(ranks_text, n)
            self.check_ranks(chance, made, [max(0, index - 1) for index in range(n)])
            self.check_ranks(chance, made, [min(n - 1, index + 1) for index in range(n)])
            self.check_ranks(chance, made, list(range(n)))
            self.check_ranks(chance, made, [0] * n)

    def test_by_name(self):
        self.assertEqual(ranks_text(n=3), ranks_text(3))


class Ways(SampleTests):
    def least_lengths(self, n, d):
        """By rows of arcs: the least lengths of ways with at most 1, 2, .. arcs."""
        best = [d[i * n:i * n + n] for i in range(n)]
        arcs = best
        for _ in range(n + 1):
            best = [[min(best[i][j], min(best[i][k] + arcs[k][j] for k in range(n))) for j in range(n)]
                    for i in range(n)]
        return [best[i][j] for i in range(n) for j in range(n)]

    def test_all_sizes(self):
        chance = random.Random(5)
        for n in range(1, 6):
            made = self.program_of(ways_text, n)
            self.sizes(made, {"d": n * n})
            for _ in range(40):
                d = drawn_numbers(chance, n * n, 0, 10 ** 6)
                self.check(chance, made, {"d": d}, {"d": self.least_lengths(n, d)})

    def test_from_a_number_to_itself(self):
        made = read_program(ways_text(n=2))
        self.check(random.Random(51), made, {"d": [9, 1, 2, 9]}, {"d": [3, 1, 2, 3]})
        self.check(random.Random(51), made, {"d": [0, 1, 2, 5]}, {"d": [0, 1, 2, 3]})
        self.check(random.Random(51), read_program(ways_text(1)), {"d": [7]}, {"d": [7]})


class Groups(SampleTests):
    def check_groups(self, chance, made, n, one, two):
        label = list(range(n))
        for _ in range(n):
            for x, y in zip(one, two):
                label[x] = label[y] = min(label[x], label[y])
        self.check(chance, made, {"one": one, "two": two}, {"label": label}, within=100)

    def test_all_sizes(self):
        chance = random.Random(6)
        for n in range(1, 17):
            for m in range(1, 25):
                made = self.program_of(groups_text, n, m)
                self.sizes(made, {"one": m, "two": m, "label": n})
                for _ in range(3):
                    self.check_groups(chance, made, n, *[[chance.randrange(n) for _ in range(m)] for _ in range(2)])

    def test_long_rows(self):
        chance = random.Random(61)
        for n in range(2, 17):
            made = self.program_of(groups_text, n, n - 1)
            rising = list(range(n))
            self.check_groups(chance, made, n, rising[:-1], rising[1:])
            self.check_groups(chance, made, n, rising[1:], rising[:-1])
            for _ in range(5):
                row = chance.sample(rising, n)
                self.check_groups(chance, made, n, row[:-1], row[1:])

    def test_edges_that_join_a_number_with_itself(self):
        made = read_program(groups_text(n=3, m=2))
        self.check(random.Random(62), made, {"one": [1, 2], "two": [1, 2]}, {"label": [0, 1, 2]}, within=100)
        self.check(random.Random(62), made, {"one": [1, 1], "two": [2, 2]}, {"label": [0, 1, 1]}, within=100)


class Counts(SampleTests):
    def test_all_sizes(self):
        chance = random.Random(7)
        for n in range(1, 33):
            for k in range(1, 33):
                made = self.program_of(counts_text, n, k)
                self.sizes(made, {"a": n, "count": k})
                for a in (drawn_numbers(chance, n), [chance.randint(-1, k) for _ in range(n)]):
                    self.check(chance, made, {"a": a}, {"count": [a.count(v) for v in range(k)]})

    def test_by_hand(self):
        made = read_program(counts_text(n=6, k=3))
        self.check(random.Random(71), made, {"a": [0, 2, 2, 3, -1, 0]}, {"count": [2, 0, 2]})


class Top(SampleTests):
    def test_all_sizes(self):
        chance = random.Random(8)
        for n in range(1, 33):
            made = self.program_of(top_text, n)
            self.sizes(made, {"a": n, "best": 2})
            for _ in range(10):
                a = drawn_numbers(chance, n)
                self.check(chance, made, {"a": a}, {"best": [max(a), a.index(max(a))]})

    def test_by_hand(self):
        made = read_program(top_text(n=4))
        self.check(random.Random(81), made, {"a": [-7, -3, -9, -3]}, {"best": [-3, 1]})


class Brackets(SampleTests):
    def check_brackets(self, chance, made, a):
        still, good = 0, 1
        for number in a:
            still += {1: 1, 2: -1}.get(number, 0)
            good = good if still >= 0 else 0
        self.check(chance, made, {"a": a}, {"good": [good if still == 0 else 0]})

    def test_all_sizes(self):
        chance = random.Random(9)
        for n in range(1, 33):
            made = self.program_of(brackets_text, n)
            self.sizes(made, {"a": n, "good": 1})
            for _ in range(5):
                self.check_brackets(chance, made, drawn_numbers(chance, n))
                self.check_brackets(chance, made, [chance.choice((0, 1, 2, 3, -1)) for _ in range(n)])
                self.check_brackets(chance, made, self.matching(chance, n))
            self.check_brackets(chance, made, [0] * n)
            self.check_brackets(chance, made, [1] * (n // 2) + [7] * (n % 2) + [2] * (n // 2))
            self.check_brackets(chance, made, [2] * (n // 2) + [7] * (n % 2) + [1] * (n // 2))

    def matching(self, chance, n):
        """Brackets that match, sometimes with one changed."""
        a, still = [], 0
        for at in range(n):
            left = n - at
            choices = [number for number, fits in ((0, still < left), (1, still + 1 < left), (2, still > 0)) if fits]
            number = chance.choice(choices)
            still += {1: 1, 2: -1}.get(number, 0)
            a.append(number)
        if chance.random() < 0.4:
            a[chance.randrange(n)] = chance.choice((0, 1, 2, LIMIT, -LIMIT))
        return a

    def test_all_short_rows(self):
        chance = random.Random(91)
        for n in range(1, 6):
            made = self.program_of(brackets_text, n)
            for number in range(3 ** n):
                self.check_brackets(chance, made, [number // 3 ** at % 3 for at in range(n)])

    def test_by_name(self):
        self.assertEqual(brackets_text(n=3), brackets_text(3))


class Cells(SampleTests):
    def check_cells(self, chance, made, a, rule, rounds):
        row, n = a, len(a)
        for _ in range(rounds):
            row = [rule >> (4 * row[at - 1] + 2 * row[at] + row[(at + 1) % n]) & 1 for at in range(n)]
        self.check(chance, made, {"a": a}, {"a": row})

    def test_all_rules(self):
        chance = random.Random(10)
        for rule in range(256):
            for n in (8, chance.randint(1, 32)):
                rounds = chance.randint(1, 16)
                made = self.program_of(cells_text, n, rule, rounds)
                self.sizes(made, {"a": n})
                for _ in range(2):
                    self.check_cells(chance, made, [chance.randrange(2) for _ in range(n)], rule, rounds)

    def test_all_sizes(self):
        chance = random.Random(101)
        for n in range(1, 33):
            for rounds in (1, 2, 16):
                rule = chance.choice((30, 110, 90, 184, 255, 0, 1))
                made = self.program_of(cells_text, n, rule, rounds)
                for a in ([0] * n, [1] * n, [0] * (n - 1) + [1], [chance.randrange(2) for _ in range(n)]):
                    self.check_cells(chance, made, a, rule, rounds)

    def test_all_numbers_of_rounds(self):
        chance = random.Random(102)
        for rounds in range(1, 17):
            made = read_program(cells_text(n=7, rule=110, rounds=rounds))
            self.check_cells(chance, made, [0, 0, 0, 1, 0, 0, 0], 110, rounds)


class Order(SampleTests):
    def test_all_sizes(self):
        chance = random.Random(11)
        for n in range(1, 6):
            made = self.program_of(order_text, n)
            self.sizes(made, {"a": n, "out": n})
            self.assertEqual(made.lanes, n * n)
            for _ in range(60):
                a = drawn_numbers(chance, n)
                self.check(chance, made, {"a": a}, {"a": a, "out": sorted(a)}, within=4)

    def test_by_hand(self):
        made = read_program(order_text(n=5))
        self.check(random.Random(111), made, {"a": [4, -4, 4, 0, -4]}, {"out": [-4, -4, 0, 4, 4]}, within=4)


class Adds(SampleTests):
    def check_sum(self, chance, made, n, one, two):
        x, y = [one >> bit & 1 for bit in range(n)], [two >> bit & 1 for bit in range(n)]
        self.check(chance, made, {"x": x, "y": y}, {"z": [one + two >> bit & 1 for bit in range(n + 1)]})

    def test_all_sizes(self):
        chance = random.Random(12)
        for n in range(1, 17):
            made = self.program_of(adds_text, n)
            self.sizes(made, {"x": n, "y": n, "z": n + 1})
            top = 2 ** n - 1
            for one, two in ((0, 0), (top, top), (top, 1), (1, top), (top, 0), (top // 2, top // 2 + 1)):
                self.check_sum(chance, made, n, min(one, top), min(two, top))
            for _ in range(15):
                self.check_sum(chance, made, n, chance.randint(0, top), chance.randint(0, top))

    def test_all_small_sums(self):
        chance = random.Random(121)
        made = read_program(adds_text(n=3))
        for one in range(8):
            for two in range(8):
                self.check_sum(chance, made, 3, one, two)


class OnTheMachine(SampleTests):
    def test_each_sample(self):
        chance = random.Random(13)
        for text, arrays in (
                (sums_text(32), {"a": drawn_numbers(chance, 32, -10 ** 6, 10 ** 6)}),
                (sort_text(16), {"a": drawn_numbers(chance, 16)}),
                (ranks_text(16), {"after": [max(0, index - 1) for index in range(16)]}),
                (ways_text(5), {"d": drawn_numbers(chance, 25, 0, 10 ** 6)}),
                (groups_text(16, 24), {"one": [chance.randrange(16) for _ in range(24)],
                                       "two": [chance.randrange(16) for _ in range(24)]}),
                (counts_text(32, 32), {"a": [chance.randrange(32) for _ in range(32)]}),
                (top_text(32), {"a": drawn_numbers(chance, 32)}),
                (brackets_text(32), {"a": [1] * 16 + [2] * 16}),
                (cells_text(32, 110, 16), {"a": [chance.randrange(2) for _ in range(32)]}),
                (order_text(5), {"a": drawn_numbers(chance, 5)}),
                (adds_text(16), {"x": [1] * 16, "y": [1] + [0] * 15})):
            made = read_program(text)
            data = self.memory(chance, made, arrays)
            steps, ended = plain_run(made, data, most=100)
            self.assertIs(ended, True)
            self.on_the_machine(chance, made, data, steps)


if __name__ == "__main__":
    unittest.main()
