"""Nodes of a tree: the root is 1, the children of the node v are 2 * v and 2 * v + 1."""


def depth_of(node):
    """How far a node is from the root."""
    return node.bit_length() - 1


def is_under(node, top):
    """Whether a node is another one of the same tree or lies below it."""
    while node > top:
        node //= 2
    return node == top


def sibling_of(node):
    """The other child of the parent of a node."""
    return node ^ 1
