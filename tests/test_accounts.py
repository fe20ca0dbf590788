"""Points 66 to 68: the accounts of parts, and what holds of them."""

import random
import unittest
from itertools import product

from drawing import drawn_crew, drawn_data, drawn_program, drawn_storm, drawn_word, drawn_works
from helpers import as_lists, check_plain, check_raises, check_unchanged
from stillinstep.accounts import account_bill, account_of, is_account
from stillinstep.bills import dearest, dearest_storm
from stillinstep.crews import Crew, bits_crew
from stillinstep.errors import BadStorm, NotOver
from stillinstep.leasts import least, least_storm
from stillinstep.machines import Machine, start_cells
from stillinstep.runs import run_storm
from stillinstep.storms import calm_storm
from stillinstep.ticks import each_tick, standing_of
from stillinstep.walks import start_standing, walk_tick


def whole_storm(chance, crew, works, finishing=0.5):
    """A drawn storm that brings a part to its end, with some words behind it."""
    storm, standing = [], start_standing(crew)
    while not standing[0][1]:
        word = drawn_word(chance, crew.workers, finishing)
        standing = walk_tick(crew, works, standing, [worker for worker, sign in enumerate(word) if sign == "+"])
        storm.append(word)
    return (*storm, *drawn_storm(chance, crew.workers, chance.randint(0, 3)))


def under(node, top):
    """Whether a node is under another one."""
    return node == top or (node > top and under(node // 2, top))


def reference(crew, works, account):
    """What is_account returns, written down condition by condition."""
    takers, entries = account
    leaves, workers = crew.leaves, range(crew.workers)

    def ascending(numbers):
        return all(a < b for a, b in zip(numbers, numbers[1:])) and all(worker in workers for worker in numbers)

    if not ascending(takers) or len(entries) != 2 * leaves - 1:
        return False
    for node, (first, above, turns) in enumerate(entries, start=1):
        if (first is not None) if node >= leaves else (first not in (0, 1, 2)):
            return False
        if not ascending(above) or len(turns) != len(workers) or min(turns) < 0:
            return False
    above = {node: list(entry[1]) for node, entry in enumerate(entries, start=1)}
    seat = {worker: leaves + crew.seats[worker] for worker in workers}
    for node, (first, _, turns) in enumerate(entries, start=1):
        for worker in workers:
            if worker not in takers and (worker in above[node] or turns[worker] != 0):
                return False
            if worker in above[node] and under(seat[worker], node):
                return False
            tries = 2 * node + crew.leanings[worker][node - 1] if node < leaves else None
            if node < leaves and first == 2:
                for child in (2 * node, 2 * node + 1):
                    if worker in above[child] and not (worker in above[node] and tries == child):
                        return False
            elif node < leaves:
                x, y = (2 * node, 2 * node + 1) if first == 0 else (2 * node + 1, 2 * node)
                if worker in above[x] and not (worker in above[node] and tries == x):
                    return False
                if worker in above[y] and not (worker in above[node] or under(seat[worker], x)):
                    return False
            if node >= leaves:
                allowed = works[node - leaves] + 1 if worker in above[node] or seat[worker] == node else 0
            elif worker in above[node]:
                allowed = 4 if first in (0, 1) and tries == 2 * node + first else 3
            elif under(seat[worker], node):
                allowed = 3 if first in (0, 1) and under(seat[worker], 2 * node + first) else 2
            else:
                allowed = 0
            if turns[worker] > allowed - (1 if node == 1 else 0):
                return False
    return True


class AccountTests(unittest.TestCase):
    def account(self, crew, works, storm):
        """The account, with what is passed as tuples and as lists."""
        results = [check_unchanged(self, account_of, crew, kind(works), kind(storm)) for kind in (tuple, list)]
        self.assertEqual(results[0], results[1])
        check_plain(self, results[0])
        return results[0]

    def bill(self, account):
        results = [check_unchanged(self, account_bill, passed) for passed in (account, as_lists(account))]
        self.assertEqual(results[0], results[1])
        self.assertIs(type(results[0]), int)
        return results[0]

    def holds(self, crew, works, account):
        """What is_account returns, also for lists in the place of tuples."""
        wanted = reference(crew, works, account)
        for passed, kind in ((account, tuple), (as_lists(account), list)):
            self.assertIs(check_unchanged(self, is_account, crew, kind(works), passed), wanted, account)
        return wanted


CREW = bits_crew(1, bits=1)
WORKS = (1, 1)
STORM = ("++", "+-", "+-", "+-", "++", "++", "++")


class AccountOf(AccountTests):
    def test_worked_by_hand(self):
        # Both take; worker 0 works 2, goes up and down to 3; both work 3, go up and mark.
        account = ((0, 1), ((0, (), (2, 1)), (None, (), (2, 0)), (None, (0,), (2, 2))))
        self.assertEqual(self.account(CREW, WORKS, STORM), account)
        self.assertEqual(self.bill(account), 11)

    def test_first_by_the_ticks_of_the_marks(self):
        self.assertEqual(self.account(CREW, WORKS, ["++", "++", "++", "++"]),
                         ((0, 1), ((2, (), (1, 1)), (None, (), (2, 0)), (None, (), (0, 2)))))
        self.assertEqual(self.account(CREW, WORKS, ["++", "-+", "+-", "+-", "+-"]),
                         ((0, 1), ((1, (), (1, 0)), (None, (), (2, 0)), (None, (), (0, 1)))))
        self.assertEqual(self.account(CREW, WORKS, ["++", "+-", "-+", "-+", "-+"]),
                         ((0, 1), ((0, (), (0, 1)), (None, (), (1, 0)), (None, (), (0, 2)))))

    def test_a_worker_that_never_takes_up_the_part(self):
        account = self.account(CREW, WORKS, ["-+"] * 7)
        self.assertEqual(account, ((1,), ((1, (), (0, 2)), (None, (1,), (0, 2)), (None, (), (0, 2)))))
        self.assertEqual(self.bill(account), 7)

    def test_cut_and_sleeping_turns_do_not_count(self):
        self.assertEqual(self.account(CREW, WORKS, ["9+", "0-", "5+", "--", "8+", "-+", "7+", "6+", "-+"]),
                         self.account(CREW, WORKS, ["-+"] * 7))

    def test_a_crew_of_height_2(self):
        # Worker 0 sits at 4, worker 1 at 4 too, worker 2 at 7; 0 does it all but for what 2 does at 7.
        crew = Crew(2, (0, 0, 3), ((0, 0, 0), (0, 1, 0), (1, 0, 0)))
        rows = ["+++", "--+"] + ["+--"] * 3 + ["+--"] * 3 + ["+--"] * 6 + ["-++"] + ["+--"] * 2
        account = self.account(crew, (1, 1, 1, 1), rows)
        self.assertEqual(account, ((0, 1, 2), (
            (0, (), (2, 0, 0)),
            (0, (), (3, 0, 0)), (1, (0,), (3, 0, 0)),
            (None, (), (2, 1, 0)), (None, (0,), (2, 0, 0)), (None, (0,), (2, 0, 0)), (None, (), (0, 0, 2)))))

    def test_further_words_are_ignored(self):
        account = self.account(CREW, WORKS, STORM)
        for more in (("++",), ("--", "+-"), ("99",) * 5):
            self.assertEqual(self.account(CREW, WORKS, STORM + more), account)

    def test_all_turns_of_the_last_tick_count(self):
        both = self.account(CREW, WORKS, STORM)
        one = self.account(CREW, WORKS, STORM[:-1] + ("-+",))
        self.assertEqual((self.bill(both), self.bill(one)), (11, 10))

    def test_storms_that_are_too_short(self):
        for storm in ((), STORM[:-1], ("--",) * 20, ("99",) * 20, STORM[:-1] + ("--", "12")):
            for kind in (tuple, list):
                check_raises(self, NotOver, {}, account_of, CREW, WORKS, kind(storm))

    def test_bad_words(self):
        for tick, storm in ((0, ["+"]), (0, ["", "+"]), (1, ["++", "+x"]), (2, ["++", "--", "+++", "+"])):
            check_raises(self, BadStorm, {"tick": tick}, account_of, CREW, WORKS, storm)
        # The whole storm is checked first, also behind the end of the part.
        check_raises(self, BadStorm, {"tick": 9}, account_of, CREW, WORKS, STORM + ("++", "++", "+", "x"))
        check_raises(self, BadStorm, {"tick": 6}, account_of, CREW, WORKS, STORM[:-1] + ("+ ",))

    def test_by_name(self):
        account = account_of(crew=CREW, works=[1, 1], storm=list(STORM))
        self.assertEqual(account_bill(account=account), 11)
        self.assertIs(is_account(crew=CREW, works=[1, 1], account=account), True)

    def test_as_the_turns_on_the_machine(self):
        chance = random.Random(66)
        for _ in range(30):
            machine = Machine(drawn_program(chance), drawn_crew(chance))
            crew, works = machine.crew, machine.works
            storm = whole_storm(chance, crew, works, chance.choice((0.2, 0.8)))
            cells = start_cells(machine, drawn_data(chance, machine.program))
            report = run_storm(machine, cells, storm)
            ticks, now = {}, []
            for tick, cells in enumerate(each_tick(machine, cells, storm)):
                for node, mark in enumerate(cells[3]):
                    if mark == 1:
                        ticks.setdefault(node, tick)
                now.append(standing_of(machine, cells)[2][2])
            turns = [[0] * crew.workers for _ in range(2 * crew.leaves)]
            above = [[] for _ in range(2 * crew.leaves)]
            takers = []
            for tick, worker, part, act, at in report.turns:
                if part == 1 and act == "take":
                    takers.append(worker)
                elif part == 1:
                    turns[at][worker] += 1
                    if act == "down":
                        above[now[tick][worker]].append(worker)
            entries = []
            for node in range(1, 2 * crew.leaves):
                first = None
                if node < crew.leaves:
                    left, right = ticks[2 * node], ticks[2 * node + 1]
                    first = 0 if left < right else 1 if left > right else 2
                entries.append((first, tuple(sorted(above[node])), tuple(turns[node])))
            account = self.account(crew, works, storm)
            self.assertEqual(account, (tuple(sorted(takers)), tuple(entries)))
            self.assertEqual(self.bill(account), report.parts[0][2])


class Facts(AccountTests):
    """Point 68."""

    def check(self, crew, works, storm):
        account = self.account(crew, works, storm)
        self.assertIs(self.holds(crew, works, account), True)
        standing, bill = start_standing(crew), 0
        for word in storm:
            row = [worker for worker, sign in enumerate(word) if sign == "+"]
            bill += 0 if standing[0][1] else len(row)
            standing = walk_tick(crew, works, standing, row)
        self.assertEqual(self.bill(account), bill)
        return bill

    def test_drawn_storms(self):
        chance = random.Random(68)
        for _ in range(150):
            crew = drawn_crew(chance)
            works = drawn_works(chance, crew, chance.choice((1, 3, 16)))
            bill = self.check(crew, works, whole_storm(chance, crew, works, chance.choice((0.05, 0.5, 0.95))))
            self.assertLessEqual(bill, dearest(crew, works))

    def test_dearest_least_and_calm_storms(self):
        chance = random.Random(681)
        for _ in range(25):
            crew = drawn_crew(chance)
            works = drawn_works(chance, crew, 4)
            self.assertEqual(self.check(crew, works, dearest_storm(crew, works)), dearest(crew, works))
            self.assertEqual(self.check(crew, works, least_storm(crew, works)), least(crew, works))
            self.check(crew, works, calm_storm(crew.workers, 400))

    def test_all_accounts_of_a_small_part(self):
        """No account that holds has a greater bill than the dearest, and one has just this."""
        for crew, works in ((CREW, (1, 1)), (Crew(1, (0, 0), ((0,), (1,))), (1, 2)), (Crew(1, (1,), ((1,),)), (2, 1))):
            everybody = range(crew.workers)
            groups = [group for many in range(crew.workers + 1)
                      for group in product(everybody, repeat=many) if list(group) == sorted(set(group))]
            greatest, held = 0, 0
            for takers, first, left, right in product(groups, (0, 1, 2), groups, groups):
                # The turns of each node count by themselves: the greatest that are allowed.
                entries = []
                for node, (its_first, above) in enumerate(((first, ()), (None, left), (None, right)), start=1):
                    turns = []
                    for worker in everybody:
                        most = 0
                        while self.holds_with(crew, works, takers, first, left, right, node, worker, most + 1):
                            most += 1
                        turns.append(most)
                    entries.append((its_first, above, tuple(turns)))
                account = (takers, tuple(entries))
                if self.holds(crew, works, account):
                    held += 1
                    greatest = max(greatest, self.bill(account))
            self.assertGreater(held, 2)
            self.assertEqual(greatest, dearest(crew, works))

    def holds_with(self, crew, works, takers, first, left, right, node, worker, number):
        """Whether an account holds in which only this worker has turns, at this node."""
        entries = []
        for at, (its_first, above) in enumerate(((first, ()), (None, left), (None, right)), start=1):
            turns = tuple(number if at == node and other == worker else 0 for other in range(crew.workers))
            entries.append((its_first, above, turns))
        return self.holds(crew, works, (takers, tuple(entries)))

    def test_drawn_accounts(self):
        """Accounts that nobody performed, filled with the greatest turns that the conditions allow."""
        chance = random.Random(682)
        for _ in range(40):
            crew = drawn_crew(chance, height=chance.randint(1, 3), workers=chance.randint(1, 6))
            works = drawn_works(chance, crew, 3)
            account = full_account(chance, crew, works)
            self.assertIs(self.holds(crew, works, account), True)
            self.assertLessEqual(self.bill(account), dearest(crew, works))


def full_account(chance, crew, works):
    """An account with drawn numbers first, all workers above that may be there, and all turns they may have."""
    leaves, workers = crew.leaves, range(crew.workers)
    first = [chance.choice((0, 0, 1, 1, 2)) for _ in range(leaves)]
    above = [[] for _ in range(2 * leaves)]
    entries = []
    for node in range(1, 2 * leaves):
        if node > 1:
            parent = node // 2
            for worker in workers:
                if under(leaves + crew.seats[worker], node):
                    continue
                tries = 2 * parent + crew.leanings[worker][parent - 1] == node
                is_first = first[parent] == 2 or 2 * parent + first[parent] == node
                if worker in above[parent]:
                    fits = tries if is_first else True
                else:
                    fits = not is_first and under(leaves + crew.seats[worker], node ^ 1)
                if fits and chance.random() < 0.9:
                    above[node].append(worker)
        turns = []
        for worker in workers:
            seat = leaves + crew.seats[worker]
            if worker not in above[node] and not under(seat, node):
                turns.append(0)
            elif node >= leaves:
                turns.append(works[node - leaves] + 1)
            else:
                begin = 2 * node + crew.leanings[worker][node - 1] if worker in above[node] else seat
                more = first[node] != 2 and under(begin, 2 * node + first[node])
                turns.append((3 if worker in above[node] else 2) + more - (node == 1))
        entries.append((first[node] if node < leaves else None, tuple(above[node]), tuple(turns)))
    return (tuple(workers), tuple(entries))


GOOD = ((0, 1), ((0, (), (2, 1)), (None, (), (2, 0)), (None, (0,), (2, 2))))


def with_entry(account, node, at, item):
    """The account with another item in the entry of a node."""
    takers, entries = account
    entry = list(entries[node - 1])
    entry[at] = item
    return takers, (*entries[:node - 1], tuple(entry), *entries[node:])


class IsAccount(AccountTests):
    def refuse(self, account, crew=CREW, works=WORKS):
        self.assertIs(self.holds(crew, works, account), False)

    def accept(self, account, crew=CREW, works=WORKS):
        self.assertIs(self.holds(crew, works, account), True)

    def test_nothing_asks_for_turns_or_an_end(self):
        self.accept(GOOD)
        self.accept(((), ((0, (), (0, 0)), (None, (), (0, 0)), (None, (), (0, 0)))))
        self.accept(((1,), ((2, (), (0, 1)), (None, (), (0, 0)), (None, (), (0, 0)))))
        self.accept(((0, 1), ((0, (), (0, 0)), (None, (), (0, 0)), (None, (0,), (0, 0)))))

    def test_takers(self):
        for takers in ((1, 0), (0, 0, 1), (0, 1, 1), (0, 1, 2), (-1, 0, 1), (0, 2), (0,), (1,), (), (0, 1, 16)):
            self.refuse((takers, GOOD[1]))

    def test_numbers_of_entries(self):
        takers, entries = GOOD
        for other in ((), entries[:2], entries[1:], entries + entries[:1], entries + entries[2:], entries * 2):
            self.refuse((takers, other))

    def test_entries_in_a_wrong_order(self):
        takers, entries = GOOD
        self.refuse((takers, (entries[1], entries[0], entries[2])))
        self.refuse((takers, (entries[0], entries[2], entries[1])))
        self.refuse((takers, entries[::-1]))

    def test_first(self):
        for first in (None, 3, -1, 10 ** 12, 1, 2):
            self.refuse(with_entry(GOOD, 1, 0, first))
        for node in (2, 3):
            for first in (0, 1, 2, -1):
                self.refuse(with_entry(GOOD, node, 0, first))

    def test_above(self):
        for node, above in ((1, (0,)), (1, (1,)), (1, (2,)), (2, (0,)), (2, (1,)), (3, (1,)), (3, (0, 1)), (3, (0, 0)),
                            (3, (0, 2)), (3, (-1, 0)), (3, (2,)), (3, ()), (2, (-1,))):
            self.refuse(with_entry(GOOD, node, 1, above))
        crew = Crew(1, (0, 0), ((0,), (1,)))
        account = ((0, 1), ((0, (), (2, 2)), (None, (), (2, 2)), (None, (0, 1), (2, 2))))
        self.accept(account, crew)
        self.refuse(with_entry(account, 3, 1, (1, 0)), crew)

    def test_turns(self):
        for node, turns in ((1, (2,)), (1, (2, 1, 0)), (1, ()), (1, (-1, 1)), (1, (2, -1)), (1, (3, 1)), (1, (2, 2)),
                            (2, (3, 0)), (2, (2, 1)), (2, (2, 0, 0)), (3, (3, 2)), (3, (2, 3)), (3, (2,)),
                            (3, (10 ** 12, 0)), (3, (0, -10 ** 12))):
            self.refuse(with_entry(GOOD, node, 2, turns))
        for node, turns in ((1, (0, 0)), (1, (1, 1)), (1, (2, 0)), (2, (0, 0)), (2, (1, 0)), (3, (0, 2)), (3, (1, 1))):
            self.accept(with_entry(GOOD, node, 2, turns))

    def test_a_worker_that_is_no_taker(self):
        account = ((1,), ((1, (), (0, 2)), (None, (1,), (0, 2)), (None, (), (0, 2))))
        self.accept(account)
        for node, turns in ((1, (1, 2)), (2, (1, 2)), (3, (1, 2))):
            self.refuse(with_entry(account, node, 2, turns))
        self.refuse(((0,), account[1]))
        self.refuse(((1,), ((0, (), (0, 0)), (None, (), (0, 0)), (None, (0,), (0, 0)))))

    def test_who_may_come_to_a_child(self):
        # Worker 0 sits at 4, worker 1 at 6 and leans to the left at 2, worker 2 at 7 and leans to the right there.
        crew = Crew(2, (0, 2, 3), ((0, 0, 0), (0, 0, 0), (0, 1, 0)))
        nobody = (0, 0, 0)

        def account(first, above):
            return ((0, 1, 2), tuple((first[node] if node < 4 else None, above.get(node, ()), nobody)
                                     for node in range(1, 8)))

        works = (1, 1, 1, 1)
        # From below the child that is marked first, and only to the other one.
        self.accept(account({1: 1, 2: 0, 3: 0}, {2: (1, 2)}), crew, works)
        self.refuse(account({1: 0, 2: 0, 3: 0}, {2: (1, 2)}), crew, works)
        self.refuse(account({1: 2, 2: 0, 3: 0}, {2: (1,)}), crew, works)
        self.accept(account({1: 0, 2: 0, 3: 0}, {3: (0,)}), crew, works)
        # Who comes from above goes first to the child that it tries first ..
        self.accept(account({1: 1, 2: 0, 3: 0}, {2: (1, 2), 4: (1,)}), crew, works)
        self.refuse(account({1: 1, 2: 0, 3: 0}, {2: (1, 2), 4: (1, 2)}), crew, works)
        self.refuse(account({1: 1, 2: 1, 3: 0}, {2: (1, 2), 5: (1,)}), crew, works)
        self.accept(account({1: 1, 2: 1, 3: 0}, {2: (1, 2), 5: (2,)}), crew, works)
        # .. and anybody who was there, or under the first child, to the other one.
        self.accept(account({1: 1, 2: 0, 3: 0}, {2: (1, 2), 4: (1,), 5: (0, 1, 2)}), crew, works)
        self.refuse(account({1: 1, 2: 0, 3: 0}, {2: (1,), 5: (0, 1, 2)}), crew, works)
        self.accept(account({1: 1, 2: 0, 3: 0}, {2: (2,), 5: (0, 2)}), crew, works)
        # Both marked in one tick: each only to the child that it tries first.
        self.accept(account({1: 1, 2: 2, 3: 0}, {2: (1, 2), 4: (1,), 5: (2,)}), crew, works)
        self.refuse(account({1: 1, 2: 2, 3: 0}, {2: (1, 2), 4: (1,), 5: (1,)}), crew, works)
        self.refuse(account({1: 1, 2: 2, 3: 0}, {2: (1, 2), 5: (0,)}), crew, works)
        # Nobody comes from above to a node over its seat.
        self.refuse(account({1: 1, 2: 0, 3: 0}, {2: (0,)}), crew, works)
        self.refuse(account({1: 0, 2: 0, 3: 1}, {6: (1,)}), crew, works)
        self.refuse(account({1: 0, 2: 0, 3: 0}, {1: (0,)}), crew, works)

    def test_allowances(self):
        # The same crew: for each account its numbers first, who is above, and what is allowed at the nodes 1 to 7.
        crew = Crew(2, (0, 2, 3), ((0, 0, 0), (0, 0, 0), (0, 1, 0)))
        works = (1, 2, 3, 16)
        for first, above, allowed in (
                ((1, 0, 0), ((), (1, 2), (), (1,), (0, 1, 2), (), (1,)),
                 ((1, 2, 2), (3, 4, 3), (0, 3, 2), (2, 2, 0), (3, 3, 3), (0, 4, 0), (0, 17, 17))),
                ((0, 1, 2), ((), (), (0,), (), (), (0,), ()),
                 ((2, 1, 1), (2, 0, 0), (3, 2, 2), (2, 0, 0), (0, 0, 0), (4, 4, 0), (0, 0, 17))),
                ((2, 2, 1), ((), (), (), (), (), (2,), ()),
                 ((1, 1, 1), (2, 0, 0), (0, 2, 3), (2, 0, 0), (0, 0, 0), (0, 4, 4), (0, 0, 17))),
                ((0, 0, 0), ((), (), (0,), (), (0,), (0,), (0, 1)),
                 ((2, 1, 1), (3, 0, 0), (4, 3, 2), (2, 0, 0), (3, 0, 0), (4, 4, 0), (17, 17, 17)))):
            entries = tuple(zip(first + (None,) * 4, above, allowed))
            self.accept(((0, 1, 2), entries), crew, works)
            for node in range(1, 8):
                for worker in range(3):
                    turns = list(allowed[node - 1])
                    turns[worker] += 1
                    self.refuse(with_entry(((0, 1, 2), entries), node, 2, tuple(turns)), crew, works)

    def test_accounts_changed_in_one_item(self):
        chance = random.Random(67)
        answers = {True: 0, False: 0}
        for _ in range(40):
            crew = drawn_crew(chance, height=chance.randint(1, 3), workers=chance.randint(1, 5))
            works = drawn_works(chance, crew, 3)
            account = account_of(crew, works, whole_storm(chance, crew, works, 0.8))
            if chance.random() < 0.4:
                account = full_account(chance, crew, works)
            for _ in range(25):
                answers[self.holds(crew, works, self.changed(chance, crew, account))] += 1
        self.assertGreater(min(answers.values()), 100)

    def changed(self, chance, crew, account):
        """The account with one item changed, put in, taken out or exchanged."""
        takers, entries = account
        node = chance.randint(1, len(entries))
        _, above, turns = entries[node - 1]
        kind = chance.randrange(7)
        if kind == 0:
            worker = chance.randint(-1, crew.workers)
            return tuple(sorted({*takers, worker})), entries
        if kind == 1:
            return tuple(worker for worker in takers if worker != chance.randrange(crew.workers)), entries
        if kind == 2:
            return with_entry(account, node, 0, chance.choice((None, 0, 1, 2, 3)))
        if kind == 3:
            return with_entry(account, node, 1, tuple(sorted({*above, chance.randint(-1, crew.workers)})))
        if kind == 4:
            return with_entry(account, node, 1, above[1:])
        if kind == 5:
            changed = list(turns)
            changed[chance.randrange(crew.workers)] += chance.choice((-1, 1))
            return with_entry(account, node, 2, tuple(changed))
        other = chance.randint(1, len(entries))
        exchanged = list(entries)
        exchanged[node - 1], exchanged[other - 1] = exchanged[other - 1], exchanged[node - 1]
        return takers, tuple(exchanged)


if __name__ == "__main__":
    unittest.main()
