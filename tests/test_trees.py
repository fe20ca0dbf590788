"""Point 31: the nodes of a tree."""

import unittest

from helpers import check_plain
from stillinstep.trees import depth_of, is_under, sibling_of


def ways_up(height):
    """For each node of a tree, by going down from the root, the nodes from it up to the root."""
    found = {}
    ready = [(1, ())]
    while ready:
        node, above = ready.pop()
        found[node] = (node, *above)
        if len(above) < height:
            ready += [(2 * node, found[node]), (2 * node + 1, found[node])]
    return found


class Trees(unittest.TestCase):
    def test_depth_of_each_node(self):
        for height in (1, 2, 3, 4):
            found = ways_up(height)
            self.assertEqual(sorted(found), list(range(1, 2 ** (height + 1))))
            for node, way in found.items():
                self.assertEqual(depth_of(node), len(way) - 1)
                check_plain(self, depth_of(node))
            for leaf in range(2 ** height):
                self.assertEqual(depth_of(2 ** height + leaf), height)

    def test_is_under_for_every_pair(self):
        for height in (1, 2, 3, 4):
            found = ways_up(height)
            for node, way in found.items():
                for top in found:
                    self.assertIs(is_under(node, top), top in way, (node, top))

    def test_ends(self):
        self.assertEqual([depth_of(node) for node in (1, 2, 3, 4, 7, 8, 15, 16, 31)], [0, 1, 1, 2, 2, 3, 3, 4, 4])
        self.assertIs(is_under(1, 1), True)
        self.assertIs(is_under(31, 31), True)
        self.assertIs(is_under(31, 1), True)
        self.assertIs(is_under(1, 31), False)
        self.assertIs(is_under(6, 2), False)
        self.assertIs(is_under(2, 3), False)
        self.assertIs(is_under(3, 2), False)

    def test_sibling_of(self):
        for node in range(1, 16):
            self.assertEqual((sibling_of(2 * node), sibling_of(2 * node + 1)), (2 * node + 1, 2 * node))

    def test_by_name(self):
        self.assertEqual(depth_of(node=5), 2)
        self.assertIs(is_under(node=5, top=2), True)


if __name__ == "__main__":
    unittest.main()
