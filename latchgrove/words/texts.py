"""Texts of trees and of programs, written and read: read is just what is so written."""

from latchgrove.errors import NoText
from latchgrove.hands.steps import are_programs, need_programs
from latchgrove.pages.needs import need_tree
from latchgrove.pages.sound import is_sound

FIGURES = "0123456789"
MOST_FIGURES = 40
NOTHING = "-"


def tree_text(tree):
    """The tree as a text."""
    need_tree(tree)
    room, root, pages = tree
    return " / ".join([f"{room} {root}", *[page_text(number, page) for number, page in pages]])


def page_text(number, page):
    """A page with its number as a text."""
    words = [str(number), page[0]]
    if page[0] == "leaf":
        words += [str(page[2]), *[pair_text(pair) for pair in page[1]]]
    else:
        _, keys, kids = page
        words.append(str(kids[0]))
        for key, kid in zip(keys, kids[1:]):
            words += [str(key), str(kid)]
    return " ".join(words)


def pair_text(pair):
    """A pair as a text."""
    return f"{pair[0]}:{pair[1]}"


def read_tree(text):
    """The tree that is so written."""
    need_text(text)
    first, *others = text.split(" / ")
    head = first.split(" ")
    if len(head) != 2:
        raise NoText("the text of a tree begins with its room and its root")
    room, root = number_in(head[0]), number_in(head[1])
    tree = (room, root, tuple([page_in(other.split(" ")) for other in others]))
    if not is_sound(tree):
        raise NoText("what is written is no tree")
    return tree


def page_in(words):
    """The numbered page that is so written, word by word."""
    if len(words) < 3 or words[1] not in ("leaf", "node"):
        raise NoText("a page is a number, leaf or node, and what is in it")
    number = number_in(words[0])
    if words[1] == "leaf":
        return (number, ("leaf", tuple([pair_in(word) for word in words[3:]]), number_in(words[2])))
    numbers = tuple([number_in(word) for word in words[2:]])
    return (number, ("node", numbers[1::2], numbers[::2]))


def pair_in(word):
    """The pair that is so written."""
    parts = word.split(":")
    if len(parts) != 2:
        raise NoText("a pair is a key and a value with a colon between")
    return (number_in(parts[0]), number_in(parts[1]))


def programs_text(programs):
    """The programs as a text."""
    need_programs(programs)
    return " ; ".join([row_text(row) for row in programs])


def row_text(deeds):
    """One hand's deeds as a text."""
    if not deeds:
        return NOTHING
    return " , ".join([" ".join([deed[0], *[str(number) for number in deed[1:]]]) for deed in deeds])


def read_programs(text):
    """The programs that are so written."""
    need_text(text)
    programs = tuple([row_in(part) for part in text.split(" ; ")])
    if not are_programs(programs):
        raise NoText("what is written are no programs")
    return programs


def row_in(text):
    """One hand's deeds that are so written."""
    if text == NOTHING:
        return ()
    return tuple([deed_in(part.split(" ")) for part in text.split(" , ")])


def deed_in(words):
    """The deed, if it is one, that is so written, word by word."""
    return (words[0], *[number_in(word) for word in words[1:]])


def need_text(thing):
    """Refuse what is no text at all."""
    if not isinstance(thing, str):
        raise NoText("what is read is a text")


def number_in(word):
    """The number that is so written."""
    if not is_number_word(word):
        raise NoText("a number is at most forty figures, no 0 ahead of others")
    return int(word)


def is_number_word(word):
    """Whether the word is just a number's figures."""
    if not 1 <= len(word) <= MOST_FIGURES or not all([sign in FIGURES for sign in word]):
        return False
    return word == "0" or word[0] != "0"
