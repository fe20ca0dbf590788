"""Points 73 and 74: ways of sharing by expressions and by tables."""

import random
import unittest

from drawing import drawn_table, drawn_way
from helpers import as_lists, check_plain, check_raises, check_unchanged, ex
from stillinstep.errors import BadTable
from stillinstep.ways import TableWay, Way

DEEP = "1" + " + 1" * 11
OPEN = "(" * 12 + "me" + ")" * 12


class Ways(unittest.TestCase):
    def test_without_notes(self):
        way = Way(ex("nth(me mod left)"))
        self.assertEqual((way.place, way.notes, way.note), (ex("nth(me mod left)"), 0, None))
        self.assertIs(type(way.notes), int)
        self.assertEqual(set(vars(way)), {"place", "notes", "note"})

    def test_with_notes(self):
        for notes in range(5):
            for kind in (tuple, list):
                note = kind([ex("me mod 2"), ex("note[0] + 1")])
                way = check_unchanged(self, Way, ex("place[me]"), notes=notes, note=note)
                self.assertEqual((way.place, way.notes, way.note), (ex("place[me]"), notes, tuple(note)))
                check_plain(self, (way.place, way.notes, way.note))
        self.assertIs(Way(ex("0"), notes=3).note, None)
        self.assertIs(Way(ex("0"), notes=3, note=None).note, None)

    def test_expressions_at_their_bounds(self):
        for text in (DEEP, OPEN, "1000000000000", "nth(min(workers, places))"):
            way = Way(ex(text), notes=1, note=[ex(text), ex(text)])
            self.assertEqual((way.place, way.note), (ex(text), (ex(text), ex(text))))

    def test_names_that_are_not_allowed_raise_nothing(self):
        # No error is told for them; read_way refuses them.
        for text in ("lanes", "other", "a[0]", "note[0]"):
            self.assertEqual(Way(ex(text)).place, ex(text))

    def test_a_list_that_is_changed_later(self):
        note = [ex("0"), ex("1")]
        way = Way(ex("me"), notes=1, note=note)
        note.pop()
        self.assertEqual(way.note, (ex("0"), ex("1")))

    def test_by_name(self):
        way = Way(place=ex("me"), notes=2, note=(ex("0"), ex("left")))
        self.assertEqual(way, Way(ex("me"), note=(ex("0"), ex("left")), notes=2))
        with self.assertRaises(TypeError):
            Way(ex("me"), 2)

    def test_equal(self):
        note = (ex("0"), ex("me"))
        self.assertTrue(Way(ex("me")) == Way(ex("me"), notes=0, note=None))
        self.assertFalse(Way(ex("me")) != Way(ex("(me)")))
        self.assertTrue(Way(ex("me"), notes=2, note=note) == Way(ex("me"), notes=2, note=list(note)))
        self.assertTrue(Way(ex("me"), note=note) == Way(ex("me"), note=list(note)))

    def test_unequal(self):
        way = Way(ex("me"), notes=2, note=(ex("0"), ex("me")))
        for other in (Way(ex("left"), notes=2, note=way.note), Way(ex("me"), notes=1, note=way.note),
                      Way(ex("me"), notes=2), Way(ex("me"), notes=2, note=(ex("0"), ex("left"))),
                      Way(ex("me"), notes=2, note=(ex("1"), ex("me"))), Way(ex("me"))):
            self.assertTrue(way != other)
            self.assertFalse(way == other)

    def test_objects_of_another_class(self):
        way = Way(ex("me"))

        class Other:
            """Has the fields of the way."""
            place, notes, note = way.place, way.notes, way.note

        for other in (Other(), None, 0, (way.place, 0, None), way.place, TableWay(1, [[0], [0]]), "me"):
            self.assertFalse(way == other)
            self.assertTrue(way != other)

    def test_drawn_ways(self):
        chance = random.Random(73)
        for _ in range(50):
            way = drawn_way(chance)
            self.assertEqual(way, Way(way.place, notes=way.notes, note=way.note and list(way.note)))


class TableWays(unittest.TestCase):
    def make(self, places, rows):
        tables = [check_unchanged(self, TableWay, places, passed)
                  for passed in (rows, as_lists(rows), tuple(map(tuple, rows)), [tuple(row) for row in rows])]
        for table in tables:
            self.assertEqual((table.places, table.rows), (places, tuple(map(tuple, rows))))
            check_plain(self, (table.places, table.rows))
            self.assertEqual(set(vars(table)), {"places", "rows"})
            self.assertTrue(table == tables[0])
        return tables[0]

    def refuse(self, row, places, rows):
        for passed in (as_lists(rows), tuple(map(tuple, rows))):
            check_raises(self, BadTable, {"row": row}, TableWay, places, passed)

    def test_good_tables(self):
        self.make(1, [[-1], [0]])
        self.make(1, [[0] * 16, [-1] * 16])
        self.make(2, [[0, 1, -1], [1, 1, 0], [-1, -1, -1], [0, 0, 1]])
        for places in range(1, 7):
            for workers in (1, 2, 16):
                self.make(places, [[(number + worker) % (places + 1) - 1 for worker in range(workers)]
                                   for number in range(2 ** places)])

    def test_places(self):
        for places in (0, -1, -10, 7, 8, 100, 10 ** 12):
            for rows in ([], [[0]], [[0], [0]], [[0]] * 128):
                self.refuse(-1, places, rows)

    def test_numbers_of_rows(self):
        for places in range(1, 7):
            for many in (0, 1, places, 2 ** places - 1, 2 ** places + 1, 2 ** places * 2):
                if many != 2 ** places:
                    self.refuse(-1, places, [[0]] * many)

    def test_rows(self):
        for row in ([], [0], [0, 1, 0], [0, 2], [-2, 0], [10 ** 12, 0], [0, -10 ** 12], [0] * 17):
            for at in range(1, 4):
                rows = [[0, 1], [1, 0], [-1, -1], [1, 1]]
                rows[at] = row
                self.refuse(at, 2, rows)
        for row in ([], [2], [-2], [0, 2], [0] * 17, [0] * 16 + [9]):
            self.refuse(0, 2, [row] + [[0, 1]] * 3)

    def test_row_0_tells_the_length(self):
        self.refuse(1, 1, [[0], [0, 0]])
        self.refuse(1, 2, [[0], [0, 0], [0, 0], [0, 0]])
        self.refuse(3, 2, [[0], [0], [0], []])
        self.refuse(0, 1, [[0] * 17, [0] * 17])
        self.refuse(0, 1, [[], []])
        self.refuse(0, 1, [[], [0]])

    def test_several_at_once(self):
        self.refuse(-1, 7, [[2], []])
        self.refuse(-1, 1, [[5], [5], [5]])
        self.refuse(0, 1, [[1], [1]])
        self.refuse(1, 2, [[0], [2], [0, 0], [-2]])
        self.refuse(2, 2, [[0], [1], [], [-2]])

    def test_a_list_that_is_changed_later(self):
        rows = [[0], [-1]]
        table = TableWay(1, rows)
        rows[0][0] = -1
        rows.pop()
        self.assertEqual(table.rows, ((0,), (-1,)))

    def test_by_name(self):
        self.assertEqual(TableWay(places=1, rows=[[0], [0]]), TableWay(1, ((0,), (0,))))
        check_raises(self, BadTable, {"row": 1}, TableWay, places=1, rows=[[0], [1]])

    def test_unequal(self):
        table = TableWay(1, [[0], [0]])
        for other in (TableWay(1, [[0], [-1]]), TableWay(1, [[0, 0], [0, 0]]), TableWay(2, [[0]] * 4)):
            self.assertTrue(table != other)
            self.assertFalse(table == other)

    def test_objects_of_another_class(self):
        table = TableWay(1, [[0], [0]])

        class Other:
            """Has the fields of the table."""
            places, rows = 1, ((0,), (0,))

        for other in (Other(), None, 1, ((0,), (0,)), (1, ((0,), (0,))), Way(ex("0"))):
            self.assertFalse(table == other)
            self.assertTrue(table != other)

    def test_drawn_tables(self):
        chance = random.Random(74)
        for _ in range(30):
            table = drawn_table(chance)
            self.assertEqual(self.make(table.places, as_lists(table.rows)), table)


if __name__ == "__main__":
    unittest.main()
