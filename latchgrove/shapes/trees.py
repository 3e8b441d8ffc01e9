"""The shape of a tree, and the tree of a shape and of pairs."""

from latchgrove.errors import NoPairs
from latchgrove.pages.kinds import is_whole
from latchgrove.pages.needs import need_rising_pairs, need_room, need_tree
from latchgrove.pages.trees import ROOM
from latchgrove.shapes.kinds import need_shape, pairs_in_shape


def shape_of(tree):
    """The shape of the tree."""
    need_tree(tree)
    return shape_beneath(dict(tree[2]), tree[1])


def shape_beneath(pages, number):
    """The shape of the page of this number."""
    kind, _, kids = pages[number]
    if kind == "leaf":
        return len(pages[number][1])
    return tuple([shape_beneath(pages, kid) for kid in kids])


def tree_by(shape, pairs, *, room=ROOM):
    """The tree of this shape and of these pairs."""
    need_room(room)
    need_shape(shape, room)
    need_rising_pairs(pairs)
    if len(pairs) != pairs_in_shape(shape):
        raise NoPairs("the shape is of another number of pairs")
    pages = []
    set_down(shape, pairs, pages)
    return (room, 1, linked(pages))


def set_down(shape, pairs, pages):
    """Append the page of this shape, then all pages beneath it; page n stands at place n - 1."""
    at = len(pages)
    pages.append(("leaf", pairs, 0))
    if is_whole(shape):
        return
    firsts = []
    kids = []
    start = 0
    for kid in shape:
        end = start + pairs_in_shape(kid)
        firsts.append(pairs[start][0])
        kids.append(len(pages) + 1)
        set_down(kid, pairs[start:end], pages)
        start = end
    pages[at] = ("node", tuple(firsts[1:]), tuple(kids))


def linked(pages):
    """The pages with their numbers, each leaf with its next: leaves stand from left to right."""
    numbered = []
    right = 0
    for number in range(len(pages), 0, -1):
        page = pages[number - 1]
        if page[0] == "leaf":
            page = ("leaf", page[1], right)
            right = number
        numbered.append((number, page))
    return tuple(reversed(numbered))
