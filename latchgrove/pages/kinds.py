"""The small kinds of things: numbers, keys, pairs, rooms and pages, each looked at by itself."""

GREATEST = 10 ** 9
LAST_PAGE = 10 ** 6
LEAST_ROOM = 3
GREATEST_ROOM = 8


def is_whole(thing):
    """Whether it is a whole number: an int, no truth."""
    return isinstance(thing, int) and not isinstance(thing, bool)


def is_between(thing, low, high):
    """Whether it is a whole number from low to high, both among them."""
    return is_whole(thing) and low <= thing <= high


def is_row(thing, many):
    """Whether it is a tuple of just so many parts."""
    return isinstance(thing, tuple) and len(thing) == many


def is_key(thing):
    """Whether it is a key."""
    return is_between(thing, 0, GREATEST)


def is_value(thing):
    """Whether it is a value."""
    return is_between(thing, 0, GREATEST)


def is_room(thing):
    """Whether it is a room."""
    return is_between(thing, LEAST_ROOM, GREATEST_ROOM)


def is_stretch(low, high):
    """Whether low is a key and high a whole number above it that bounds keys."""
    return is_key(low) and is_between(high, low + 1, GREATEST + 1)


def half_of(room):
    """The least parts of a page that is not the root."""
    return (room + 1) // 2


def is_pair(thing):
    """Whether it is a key with its value."""
    return is_row(thing, 2) and is_key(thing[0]) and is_value(thing[1])


def are_pairs(thing):
    """Whether it is a row of pairs, in any order."""
    return isinstance(thing, tuple) and all([is_pair(pair) for pair in thing])


def are_rising(things):
    """Whether each of these numbers, or rows of them, is greater than the one ahead of it."""
    return all([one < other for one, other in zip(things, things[1:])])


def are_rising_pairs(thing):
    """Whether it is a row of pairs whose keys rise."""
    return are_pairs(thing) and are_rising([pair[0] for pair in thing])


def is_page_number(thing):
    """Whether a page may have it as its number."""
    return is_between(thing, 1, LAST_PAGE)


def is_leaf(thing):
    """Whether it is a leaf by itself, however many pairs it has."""
    if not is_row(thing, 3) or thing[0] != "leaf":
        return False
    return are_rising_pairs(thing[1]) and is_between(thing[2], 0, LAST_PAGE)


def is_node(thing):
    """Whether it is a node by itself, however many kids it has."""
    if not is_row(thing, 3) or thing[0] != "node":
        return False
    keys, kids = thing[1], thing[2]
    if not isinstance(keys, tuple) or not isinstance(kids, tuple) or len(keys) + 1 != len(kids):
        return False
    if not all([is_key(key) for key in keys]) or not all([is_page_number(kid) for kid in kids]):
        return False
    return are_rising(keys)


def is_page(thing):
    """Whether it is a page by itself, whatever other pages there are."""
    return is_leaf(thing) or is_node(thing)


def parts_of(page):
    """The parts of a page: a leaf's pairs, a node's kids."""
    return page[1] if page[0] == "leaf" else page[2]
