"""Point 92: the texts of cells, and runs that go on from cells that were read."""

import random
import re
import unittest

from changing import changed_texts
from drawing import drawn_crew, drawn_data, drawn_program, drawn_storm
from helpers import check_plain, check_raises, check_unchanged, program, region_of, with_region
from stillinstep.celltexts import read_cells, write_cells
from stillinstep.crews import Crew, bits_crew
from stillinstep.crewtexts import read_crew, write_crew
from stillinstep.errors import BadText
from stillinstep.layout import write_program
from stillinstep.lines import read_program
from stillinstep.machines import REGIONS, Machine, start_cells
from stillinstep.runs import run_storm
from stillinstep.ticks import each_tick

MACHINE = Machine(program("lanes 2", "array a 2", "step a[me] := a[me] + a[1 - me]"), bits_crew(1, bits=1))
CELLS = ((3, 4), (0, 7, 1, 0), (0, 0, 0, 0), (0, 0, 1, 0), (0, 0), (0, 0), (1, 3), (1, 1), (0, 0))
TEXT = ("data 3 4\nlook 0 7 1 0\nvote 0 0 0 0\nmark 0 0 1 0\ncount 0 0\nstamp 0 0\nnode 1 3\ntaken 1 1\ncoming 0 0")
SIZES = (2, 4, 4, 4, 2, 2, 2, 2, 2)


def bad_line(text, sizes=SIZES):
    """The first line of a text that is not as it must be, or None."""
    lines = text.split("\n")
    for number, line in enumerate(lines, start=1):
        if number == 10:
            return 10
        if not re.fullmatch(f"{REGIONS[number - 1]}( (0|-?[1-9][0-9]*)){{{sizes[number - 1]}}}", line):
            return number
        if any(len(word) > 14 or not -10 ** 12 <= int(word) <= 10 ** 12 for word in line.split(" ")[1:]):
            return number
    return None if len(lines) == 9 else len(lines) + 1


class CellTests(unittest.TestCase):
    def check(self, machine, cells, text=None):
        """Writes the cells and reads them back."""
        written = check_unchanged(self, write_cells, machine, cells)
        if text is not None:
            self.assertEqual(written, text)
        self.assertEqual(len(written.split("\n")), 9)
        again = check_unchanged(self, read_cells, machine, written)
        self.assertEqual(again, cells)
        check_plain(self, again)
        self.assertEqual(write_cells(machine, again), written)
        return written

    def refuse(self, line, text):
        self.assertEqual(bad_line(text), line, text)
        check_raises(self, BadText, {"line": line}, read_cells, MACHINE, text)


class Writing(CellTests):
    def test_worked_by_hand(self):
        self.check(MACHINE, CELLS, TEXT)
        self.check(MACHINE, start_cells(MACHINE, (-5, 10 ** 12)), "data -5 1000000000000\nlook 0 0 0 0\nvote 0 0 0 0\n"
                   "mark 0 0 0 0\ncount 0 0\nstamp 0 0\nnode 0 0\ntaken 0 0\ncoming 0 0")

    def test_regions_of_one_cell(self):
        machine = Machine(program("lanes 1", "array a 1", "step a[0] := 1"), Crew(1, (1,), ((0,),)))
        self.check(machine, start_cells(machine, (-10 ** 12,)), "data -1000000000000\nlook 0 0\nvote 0 0\nmark 0 0 0 0\n"
                   "count 0 0\nstamp 0 0\nnode 0\ntaken 0\ncoming 0 0")

    def test_drawn_runs(self):
        chance = random.Random(92)
        for _ in range(30):
            machine = Machine(drawn_program(chance), drawn_crew(chance))
            cells = start_cells(machine, drawn_data(chance, machine.program))
            for at, cells in enumerate(each_tick(machine, cells, drawn_storm(chance, machine.crew.workers, 60, 0.7))):
                if at % 10 == 0:
                    self.check(machine, cells)

    def test_by_name(self):
        self.assertEqual(read_cells(machine=MACHINE, text=write_cells(machine=MACHINE, cells=CELLS)), CELLS)


class Reading(CellTests):
    def test_each_line_of_another_form(self):
        lines = TEXT.split("\n")
        for at, line in enumerate(lines):
            name, *numbers = line.split(" ")
            rest = " ".join(numbers)
            for other in ("", " ", name, f"{name} ", rest, f" {line}", f"{line} ", f"{name}  {rest}", f"{line} 0",
                          f"{name} " + " ".join(numbers[1:]), f"{name[1:]} {rest}", f"{name}s {rest}", f"x {rest}",
                          f"{name.upper()} {rest}", line.replace(" ", "\t"), line.replace(" ", ","), f"{name}{rest}"):
                self.refuse(at + 1, "\n".join(lines[:at] + [other] + lines[at + 1:]))

    def test_forms_of_numbers(self):
        lines = TEXT.split("\n")
        for at, line in enumerate(lines):
            for word in ("-0", "+1", "00", "01", "-01", "--1", "-", "+", "x", "1x", "1.0", "1e3", "1_0", "0x1", "\u0661", "\u00b2",
                         "1000000000001", "-1000000000001", "9" * 5000, "-" + "9" * 5000, "0" * 20, "- 1", "1-"):
                self.refuse(at + 1, "\n".join(lines[:at] + [line[:-1] + word] + lines[at + 1:]))
            for word in ("0", "1", "-1", "10", "-10", "1000000000000", "-1000000000000", "999999999999"):
                good = "\n".join(lines[:at] + [line[:-1] + word] + lines[at + 1:])
                self.assertIs(bad_line(good), None)
                cells = with_region(CELLS, REGIONS[at], region_of(CELLS, REGIONS[at])[:-1] + (int(word),))
                self.assertEqual(read_cells(MACHINE, good), cells)

    def test_numbers_of_lines(self):
        lines = TEXT.split("\n")
        for many in range(1, 9):
            self.refuse(many + 1, "\n".join(lines[:many]))
            self.refuse(many + 1, "\n".join(lines[:many]) + "\n")
        self.refuse(1, "")
        self.refuse(1, "\n")
        self.refuse(1, "\n" * 20)
        for more in ("\n", "\nx", "\n\n\n", "\n" + TEXT):
            self.refuse(10, TEXT + more)
        # A bad line comes before lines that are missing or too many.
        self.refuse(3, "\n".join(lines[:2] + ["vote"]))
        self.refuse(3, "\n".join(lines[:2] + ["vote"] + lines[3:] + lines))

    def test_lines_in_another_order(self):
        lines = TEXT.split("\n")
        for at in range(9):
            for other in range(at + 1, 9):
                exchanged = list(lines)
                exchanged[at], exchanged[other] = lines[other], lines[at]
                self.refuse(at + 1, "\n".join(exchanged))

    def test_the_cells_of_another_machine(self):
        other = Machine(MACHINE.program, bits_crew(1, bits=2))
        check_raises(self, BadText, {"line": 7}, read_cells, other, TEXT)
        other = Machine(MACHINE.program, bits_crew(2, bits=1))
        check_raises(self, BadText, {"line": 4}, read_cells, other, TEXT)
        other = Machine(program("lanes 2", "array a 3", "step a[me] := a[me] + a[1 - me]"), MACHINE.crew)
        check_raises(self, BadText, {"line": 1}, read_cells, other, TEXT)
        other = Machine(program("lanes 3", "array a 2", "step a[me] := a[me] + a[1 - me]"), MACHINE.crew)
        check_raises(self, BadText, {"line": 2}, read_cells, other, TEXT)

    def test_changed_texts(self):
        answers = set()
        for changed in changed_texts(TEXT, " \n0159-+x"):
            line = bad_line(changed)
            answers.add(line)
            if line is None:
                self.assertEqual(write_cells(MACHINE, read_cells(MACHINE, changed)), changed)
            else:
                check_raises(self, BadText, {"line": line}, read_cells, MACHINE, changed)
        self.assertEqual(answers, {None, *range(1, 11)})


class GoingOn(CellTests):
    def test_a_run_that_is_cut_and_gone_on_with_by_machines_made_anew(self):
        chance = random.Random(921)
        for _ in range(25):
            machine = Machine(drawn_program(chance), drawn_crew(chance))
            cells = start_cells(machine, drawn_data(chance, machine.program))
            storm = drawn_storm(chance, machine.crew.workers, 120, chance.choice((0.4, 0.8)))
            whole = run_storm(machine, cells, storm)
            steps, turns, bill, begin = (), (), 0, 0
            texts = write_program(machine.program), write_crew(machine.crew), write_cells(machine, cells)
            while begin < len(storm):
                end = min(len(storm), begin + chance.randint(1, 30))
                anew = Machine(read_program(texts[0]), read_crew(texts[1]))
                report = run_storm(anew, read_cells(anew, texts[2]), storm[begin:end])
                steps += report.steps
                turns += tuple((tick + begin, *turn) for tick, *turn in report.turns)
                bill += report.bill
                begin = end
                texts = write_program(anew.program), write_crew(anew.crew), write_cells(anew, report.cells)
            self.assertEqual((report.cells, report.ended), (whole.cells, whole.ended))
            self.assertEqual((steps, turns, bill), (whole.steps, whole.turns, whole.bill))


if __name__ == "__main__":
    unittest.main()
