"""How many shapes the trees of so many pairs have, and which one has which number."""

from latchgrove.errors import NoNumber, TooMany
from latchgrove.pages.kinds import is_between
from latchgrove.pages.needs import need_room
from latchgrove.pages.trees import ROOM
from latchgrove.shapes.kinds import height_of_shape, need_shape, pairs_in_shape
from latchgrove.shapes.tallies import Tally

MOST_PAIRS = 60


def need_many(thing):
    """Refuse what is no number of pairs whose shapes are counted."""
    if not is_between(thing, 0, MOST_PAIRS):
        raise TooMany("shapes are told of trees of 0 to 60 pairs")


def many_shapes(many, *, room=ROOM):
    """How many shapes the trees of so many pairs have."""
    need_room(room)
    need_many(many)
    return sum(Tally(many, room).by_height())


def shape_at(many, number, *, room=ROOM):
    """The shape of this number among those of trees of so many pairs."""
    need_room(room)
    need_many(many)
    tally = Tally(many, room)
    counts = tally.by_height()
    if not is_between(number, 0, sum(counts) - 1):
        raise NoNumber("there is no shape of this number")
    height = 1
    while number >= counts[height - 1]:
        number -= counts[height - 1]
        height += 1
    return tally.shape_by(height, number)


def number_of(shape, *, room=ROOM):
    """The number of the shape among those of trees of as many pairs."""
    need_room(room)
    need_shape(shape, room)
    many = pairs_in_shape(shape)
    need_many(many)
    tally = Tally(many, room)
    height = height_of_shape(shape, room)
    return sum(tally.by_height()[:height - 1]) + tally.number_by(height, shape)
