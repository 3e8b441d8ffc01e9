"""Trees of pages: which things are trees, the empty one, and what is in one."""

from latchgrove.pages.needs import need_page, need_room, need_tree
from latchgrove.pages.sound import is_sound, levels_from

ROOM = 4


def is_tree(thing):
    """Whether it is a tree, whatever it is."""
    return is_sound(thing)


def empty(*, room=ROOM):
    """The tree of one leaf, number 1, without pairs."""
    need_room(room)
    return (room, 1, ((1, ("leaf", (), 0)),))


def levels_in(tree):
    """The numbers of a sound tree's pages, level by level."""
    return levels_from(tree[1], dict(tree[2]))


def pairs_in(tree):
    """All pairs of a sound tree, rising."""
    pages = dict(tree[2])
    return tuple([pair for number in levels_in(tree)[-1] for pair in pages[number][1]])


def pairs_of(tree):
    """All pairs of the tree, rising."""
    need_tree(tree)
    return pairs_in(tree)


def height_of(tree):
    """How many levels of pages the tree has."""
    need_tree(tree)
    return len(levels_in(tree))


def page_at(tree, number):
    """The tree's page of this number."""
    need_tree(tree)
    need_page(tree, number)
    return dict(tree[2])[number]


def by_rank(tree):
    """The head's 0, then the pages' numbers level by level, each from left to right."""
    need_tree(tree)
    return (0, *[number for level in levels_in(tree) for number in level])
