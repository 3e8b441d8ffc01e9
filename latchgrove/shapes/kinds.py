"""Which things are shapes of trees of a room, and how many pairs such trees have."""

from latchgrove.errors import NoShape
from latchgrove.pages.kinds import half_of, is_between, is_whole


def height_of_kid(shape, room):
    """The height of what a page but the root may have as its shape; 0 where it is none."""
    half = half_of(room)
    if is_whole(shape):
        return 1 if half <= shape <= room else 0
    return height_of_node(shape, half, room)


def height_of_node(shape, least, room):
    """The height of a node's shape of so many kids at least; 0 where it is none."""
    if not isinstance(shape, tuple) or not least <= len(shape) <= room:
        return 0
    height = height_of_kid(shape[0], room)
    for ahead, kid in zip(shape, shape[1:]):
        # A kid like the one ahead isn't gone through again: a small thing may be a huge shape,
        # one kid in it many times over, level by level.
        if kid != ahead and height_of_kid(kid, room) != height:
            return 0
    return height + 1 if height > 0 else 0


def height_of_shape(shape, room):
    """The height of the trees of this shape and room; 0 where there is none."""
    if is_whole(shape):
        return 1 if is_between(shape, 0, room) else 0
    return height_of_node(shape, 2, room)


def need_shape(thing, room):
    """Refuse what is no shape of a tree of this room."""
    if height_of_shape(thing, room) == 0:
        raise NoShape("no tree of this room has this shape")


def pairs_in_shape(shape):
    """How many pairs the trees of a shape have."""
    if is_whole(shape):
        return shape
    many = of_kid = pairs_in_shape(shape[0])
    for ahead, kid in zip(shape, shape[1:]):
        if kid != ahead:
            of_kid = pairs_in_shape(kid)
        many += of_kid
    return many
