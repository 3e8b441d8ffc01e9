"""The refusals that many functions share: each lets what fits pass, and raises else."""

from latchgrove.errors import NoKey, NoPage, NoPairs, NoRoom, NoStretch, NoTree, NoValue
from latchgrove.pages.kinds import are_rising_pairs, is_key, is_page_number, is_room, is_stretch, is_value
from latchgrove.pages.sound import is_sound


def need_room(thing):
    """Refuse what is no room."""
    if not is_room(thing):
        raise NoRoom("a room is a whole number from 3 to 8")


def need_key(thing):
    """Refuse what is no key."""
    if not is_key(thing):
        raise NoKey("a key is a whole number from 0 to 10 ** 9")


def need_value(thing):
    """Refuse what is no value."""
    if not is_value(thing):
        raise NoValue("a value is a whole number from 0 to 10 ** 9")


def need_stretch(low, high):
    """Refuse what is no stretch."""
    if not is_stretch(low, high):
        raise NoStretch("a stretch is a key and a whole number above it, to 10 ** 9 + 1")


def need_rising_pairs(thing):
    """Refuse what are no pairs whose keys rise."""
    if not are_rising_pairs(thing):
        raise NoPairs("pairs are a tuple of (key, value), their keys rising")


def need_tree(thing):
    """Refuse what is no tree."""
    if not is_sound(thing):
        raise NoTree("this is no tree of pages")


def need_page(tree, thing):
    """Refuse what is no number of a page of this tree."""
    if not is_page_number(thing) or thing not in dict(tree[2]):
        raise NoPage("the tree has no page of this number")
