"""A desk at which works are asked for by rows of words."""

from latchgrove.errors import NoText
from latchgrove.hands.steps import is_rule
from latchgrove.pages.kinds import is_room
from latchgrove.pages.trees import ROOM, empty, pairs_of
from latchgrove.words.texts import NOTHING, need_text, number_in, pair_text, read_programs, tree_text
from latchgrove.works.works import Works

NO_DEEDS = ((),)
DONE = "ok"


class Desk:
    """Works, and a log of all rows that were said to it."""

    def __init__(self, *, room=ROOM):
        self.works = Works(empty(room=room), NO_DEEDS)
        self.said = []
        self.answering = False

    def say(self, row):
        """Do what the row says; tell the answer."""
        kept = copied(row)
        self.said.append(("in", kept))
        self.answering = True
        try:
            return self.answer_to(row)
        finally:
            # A refused row has come out again, too: the log pairs each "in" with an "out".
            self.answering = False
            self.said.append(("out", kept))

    def many(self, rows):
        """Say the rows one behind another, up to the first that is refused; tell the answers."""
        return tuple([self.say(row) for row in rows])

    def log(self):
        """("in", row) and ("out", row) of each thing said, of refused ones, too."""
        return tuple([copied(line) for line in self.said])

    def busy(self):
        """Whether the desk is at a row now."""
        return self.answering

    def answer_to(self, row):
        """Do what the row says; the answer is a text."""
        words = words_in(row)
        if words == ["tree"]:
            return tree_text(self.works.tree())
        if words == ["map"]:
            return list_text([pair_text(pair) for pair in pairs_of(self.works.tree())])
        if words == ["can"]:
            return list_text([str(hand) for hand in self.works.can()])
        if words[0] == "works":
            self.works = works_in(words)
        else:
            self.works.do(event_in(words))
        return DONE


def copied(thing):
    """The same thing, so that whoever has the one can't change the other."""
    if isinstance(thing, tuple):
        return tuple([copied(part) for part in thing])
    if isinstance(thing, list):
        return [copied(part) for part in thing]
    if isinstance(thing, dict):
        return {key: copied(part) for key, part in thing.items()}
    return thing


def words_in(row):
    """The words of the row, one blank between."""
    need_text(row)
    words = row.split(" ")
    if "" in words:
        raise NoText("a row has no empty words")
    return words


def list_text(words):
    """The words with blanks between, or what stands for none."""
    return " ".join(words) if words else NOTHING


def works_in(words):
    """Works anew, as the row says."""
    if len(words) < 4 or not is_rule(words[1]) or not is_room(number_in(words[2])):
        raise NoText("works are asked for by a rule, a room and programs")
    programs = read_programs(" ".join(words[3:]))
    return Works(empty(room=number_in(words[2])), programs, rule=words[1])


def event_in(words):
    """The event that the row says."""
    word, *others = words
    numbers = tuple([number_in(other) for other in others])
    if word == "fall":
        return (word, numbers)
    if word not in ("step", "log", "page", "cut") or len(numbers) != 1:
        raise NoText("this says nothing that the desk knows")
    return (word, numbers[0])
