"""Drops: a pair goes out of a tree, and pages left with too few parts get some or are gone."""

from latchgrove.deeds.splits import joined, parted
from latchgrove.errors import NoPage
from latchgrove.pages.books import Book, mate_in, value_in
from latchgrove.pages.needs import need_key, need_page, need_tree


def drop(tree, key):
    """The tree without the key's pair, and the value that stood at the key, or None."""
    need_tree(tree)
    need_key(key)
    book = Book(tree)
    answer = drop_in(book, key)
    return book.tree(), answer


def drop_in(book, key):
    """Take the key's pair out of the book; tell the value that stood there, or None."""
    way = book.way(key)
    _, pairs, right = book.pages[way[-1]]
    left = tuple([pair for pair in pairs if pair[0] != key])
    book.pages[way[-1]] = ("leaf", left, right)
    fill_up(book, way)
    return value_in(pairs, key)


def fill_up(book, way):
    """Mend the pages of the way that have too few parts, from the leaf up, then the root."""
    for at in range(len(way) - 1, 0, -1):
        if book.many_parts(way[at]) >= book.half:
            return
        mend(book, way[at - 1], way[at])
    page = book.pages[book.root]
    if page[0] == "node" and len(page[2]) == 1:
        del book.pages[book.root]
        book.root = page[2][0]


def mend(book, elder, number):
    """Lend the page its mate's nearest part, or put both together where the mate can spare none."""
    _, keys, kids = book.pages[elder]
    mate = mate_in(kids, number)
    at = min(kids.index(mate), kids.index(number))
    left, right = kids[at], kids[at + 1]
    whole = joined(book.pages[left], book.pages[right], keys[at])
    if book.many_parts(mate) > book.half:
        # A part nearer to the page than to its mate changes sides.
        cut = book.many_parts(left) + (-1 if mate == left else 1)
        book.pages[left], key, book.pages[right] = parted(whole, cut, right)
        book.pages[elder] = ("node", (*keys[:at], key, *keys[at + 1:]), kids)
    else:
        book.pages[left] = whole
        del book.pages[right]
        book.pages[elder] = ("node", keys[:at] + keys[at + 1:], kids[:at + 1] + kids[at + 2:])


def safe_for_drop(tree, number, key):
    """Whether a drop of the key that goes through this page leaves those above it alone."""
    need_tree(tree)
    need_page(tree, number)
    need_key(key)
    return drop_is_safe(Book(tree), number, key)


def drop_is_safe(book, number, key):
    """Whether the page can spare a part, or is a leaf without the key; a root can spare more."""
    page = book.pages[number]
    if book.many_parts(number) > book.half:
        return True
    if page[0] == "leaf":
        return number == book.root or not book.has_key(number, key)
    return number == book.root and len(page[2]) > 2


def mate_of(tree, number):
    """The number of the page's neighbour on the left, for a first kid of that on the right."""
    need_tree(tree)
    need_page(tree, number)
    book = Book(tree)
    elder = book.elder(number)
    if elder is None:
        raise NoPage("the root has no mate")
    return mate_in(book.pages[elder][2], number)
