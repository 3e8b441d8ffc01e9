"""Rows of deeds: done to a tree, done to plain pairs, and how two trees are unlike."""

from latchgrove.deeds.drops import drop_in
from latchgrove.deeds.maps import done_to, pairs_within
from latchgrove.deeds.puts import put_in
from latchgrove.errors import NoDeed, NoRoom
from latchgrove.pages.books import Book, value_in
from latchgrove.pages.kinds import is_key, is_row, is_stretch, is_value
from latchgrove.pages.needs import need_rising_pairs, need_tree
from latchgrove.pages.trees import pairs_in


def is_deed(thing):
    """Whether it is a deed, whatever it is."""
    if is_row(thing, 2):
        return thing[0] in ("find", "drop") and is_key(thing[1])
    if not is_row(thing, 3):
        return False
    if thing[0] == "put":
        return is_key(thing[1]) and is_value(thing[2])
    return thing[0] in ("span", "walk") and is_stretch(thing[1], thing[2])


def are_deeds(thing):
    """Whether it is a row of deeds, however many."""
    return isinstance(thing, tuple) and all([is_deed(deed) for deed in thing])


def need_deeds(thing):
    """Refuse what is no row of deeds."""
    if not are_deeds(thing):
        raise NoDeed("deeds are a tuple of finds, puts, drops, spans and walks")


def done(tree, deeds):
    """The tree behind these deeds, done one behind another, and their answers."""
    need_tree(tree)
    need_deeds(deeds)
    book = Book(tree)
    answers = [done_in(book, deed) for deed in deeds]
    return book.tree(), tuple(answers)


def done_in(book, deed):
    """Do one deed in the book; tell its answer."""
    word, key = deed[0], deed[1]
    if word == "put":
        return put_in(book, key, deed[2])
    if word == "drop":
        return drop_in(book, key)
    if word == "find":
        return value_in(book.pages[book.way(key)[-1]][1], key)
    return pairs_within(pairs_in(book.tree()), key, deed[2])


def plainly(pairs, deeds):
    """The pairs behind these deeds, done by the plain map, and their answers."""
    need_rising_pairs(pairs)
    need_deeds(deeds)
    plain = dict(pairs)
    answers = [done_to(plain, deed) for deed in deeds]
    return tuple(sorted(plain.items())), tuple(answers)


def unlike(one, other):
    """In what two trees of one room are unlike: (number, before, after), 0 for the root's number."""
    need_tree(one)
    need_tree(other)
    if one[0] != other[0]:
        raise NoRoom("trees of unlike rooms are not laid beside one another")
    return changes_between(one, other)


def changes_between(one, other):
    """In what two sound trees are unlike: (number, before, after), 0 for the root's number."""
    before, after = pages_with_head(one), pages_with_head(other)
    numbers = sorted([*before, *[number for number in after if number not in before]])
    rows = [(number, before.get(number), after.get(number)) for number in numbers]
    return tuple([row for row in rows if row[1] != row[2]])


def pages_with_head(tree):
    """The tree's pages by their numbers, with the head, which says which page the root is."""
    _, root, pages = tree
    return {0: ("head", root), **dict(pages)}
