"""Looks into a tree: the way to a key, its value, the pairs of a stretch."""

from latchgrove.pages.books import Book, value_in
from latchgrove.pages.needs import need_key, need_stretch, need_tree
from latchgrove.pages.trees import pairs_in


def way_to(tree, key):
    """The numbers of the pages from the root to the leaf on the key's way."""
    need_tree(tree)
    need_key(key)
    return Book(tree).way(key)


def value_at(tree, key):
    """The value that stands at the key, or None."""
    need_tree(tree)
    need_key(key)
    book = Book(tree)
    leaf = book.pages[book.way(key)[-1]]
    return value_in(leaf[1], key)


def stretch(tree, low, high):
    """All pairs with keys from low on, below high."""
    need_tree(tree)
    need_stretch(low, high)
    return tuple([pair for pair in pairs_in(tree) if low <= pair[0] < high])
