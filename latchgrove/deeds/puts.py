"""Puts: a pair goes into a tree, and pages that get too many parts are parted."""

from latchgrove.deeds.splits import parted
from latchgrove.errors import NoPairs
from latchgrove.pages.books import Book, value_in
from latchgrove.pages.kinds import are_pairs
from latchgrove.pages.needs import need_key, need_page, need_room, need_tree, need_value
from latchgrove.pages.trees import ROOM, empty


def put(tree, key, value):
    """The tree with the pair in it, and the value that stood at the key, or None."""
    need_tree(tree)
    need_key(key)
    need_value(value)
    book = Book(tree)
    answer = put_in(book, key, value)
    return book.tree(), answer


def put_in(book, key, value):
    """Put the pair into the book; tell the value that stood at the key, or None."""
    way = book.way(key)
    _, pairs, right = book.pages[way[-1]]
    ahead = [pair for pair in pairs if pair[0] < key]
    behind = [pair for pair in pairs if pair[0] > key]
    book.pages[way[-1]] = ("leaf", (*ahead, (key, value), *behind), right)
    part_up(book, way)
    return value_in(pairs, key)


def part_up(book, way):
    """Part the pages of the way that have more parts than the room, from the leaf up."""
    for at in range(len(way) - 1, -1, -1):
        if book.many_parts(way[at]) <= book.room:
            return
        key, new = part(book, way[at])
        if at > 0:
            add_kid(book, way[at - 1], way[at], key, new)
        else:
            root = book.free_number()
            book.pages[root] = ("node", (key,), (way[0], new))
            book.root = root


def part(book, number):
    """Give the page's last parts to a new page; tell the key that goes up, and the new number."""
    page = book.pages[number]
    new = book.free_number()
    cut = book.many_parts(number) - book.half
    left, key, right = parted(page, cut, new)
    book.pages[number] = left
    book.pages[new] = right
    return key, new


def add_kid(book, elder, kid, key, new):
    """Give the elder a new kid right of this one, with the key between both."""
    _, keys, kids = book.pages[elder]
    at = kids.index(kid)
    book.pages[elder] = ("node", (*keys[:at], key, *keys[at:]), (*kids[:at + 1], new, *kids[at + 1:]))


def safe_for_put(tree, number, key):
    """Whether a put of the key that goes through this page leaves those above it alone."""
    need_tree(tree)
    need_page(tree, number)
    need_key(key)
    return put_is_safe(Book(tree), number, key)


def put_is_safe(book, number, key):
    """Whether the page has room for one more part, or is a leaf that has the key."""
    return book.many_parts(number) < book.room or book.has_key(number, key)


def planted(pairs, *, room=ROOM):
    """The tree of these pairs, put one by one into the empty tree."""
    need_room(room)
    if not are_pairs(pairs):
        raise NoPairs("what is planted is a tuple of (key, value), in any order")
    book = Book(empty(room=room))
    for key, value in pairs:
        put_in(book, key, value)
    return book.tree()
