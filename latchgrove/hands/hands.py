"""Hands that do their deeds in steps at one tree, under latches."""

from latchgrove.errors import NoHand
from latchgrove.hands.minds import Mind
from latchgrove.hands.steps import COUPLED, need_programs, need_rule
from latchgrove.latches.table import Latches
from latchgrove.pages.books import Book
from latchgrove.pages.kinds import is_between
from latchgrove.pages.needs import need_tree


class Hands:
    """A tree, and for each hand its program, how far it is, and what it has in mind."""

    def __init__(self, tree, programs, *, rule=COUPLED):
        need_tree(tree)
        need_programs(programs)
        need_rule(rule)
        self.book = Book(tree)
        self.programs = programs
        self.rule = rule
        self.table = Latches()
        self.minds = [None for _ in programs]
        self.told = [[] for _ in programs]
        # For each hand and each deed begun by it: how many deeds each hand had done by then.
        self.ahead = [[] for _ in programs]
        self.begins = [None for _ in programs]
        self.many_steps = 0
        self.come = []
        self.ended = []
        self.ran = []

    def step(self, hand):
        """Do the hand's next step and tell it; None, and no step, where the hand can't."""
        if not self.can_step(hand):
            return None
        if self.minds[hand] is None:
            self.begin(hand)
        act = self.minds[hand].acts[0]
        if act[0] == "take":
            told = self.take(hand, act[1], act[2])
        elif act[0] == "let":
            told = self.let(hand, act[1])
        else:
            told = self.come_to_point(hand)
        self.many_steps += 1
        return told

    def begin(self, hand):
        """Begin the hand's next deed."""
        self.minds[hand] = Mind(self.programs[hand][len(self.told[hand])], self.rule)
        self.begins[hand] = self.many_steps
        self.ahead[hand].append(tuple([len(answers) for answers in self.told]))

    def take(self, hand, page, alone):
        """Take a page, which the hand has at once or waits for."""
        had = self.table.take(hand, page, alone=alone)
        if had:
            self.minds[hand].had(self.book)
        return ("take", page, alone, had)

    def let(self, hand, page):
        """Let a page, which those who waited for it may have by that."""
        given = self.table.let(hand, page)
        if self.minds[hand].let():
            self.end(hand)
        for other, _ in given:
            self.minds[other].had(self.book)
        return ("let", page)

    def come_to_point(self, hand):
        """Do what the hand's deed does, all at once."""
        mind = self.minds[hand]
        mind.come_to_point(self.book)
        self.come.append((hand, mind.deed, mind.answer))
        return ("point", mind.answer)

    def end(self, hand):
        """The hand's deed is done with the step that is going on."""
        mind = self.minds[hand]
        self.told[hand].append(mind.answer)
        self.ended.append((hand, mind.deed, mind.answer, self.begins[hand], self.many_steps))
        self.minds[hand] = None

    def run(self, weaving):
        """Let the hands of the weaving step one behind another; what each step tells."""
        ahead = self.many_steps
        told = []
        for hand in weaving:
            if not self.has_hand(hand):
                break
            told.append(self.step(hand))
        self.ran.append((ahead, self.many_steps))
        if len(told) < len(weaving):
            raise NoHand("the weaving has what is no hand of these")
        return tuple(told)

    def runs(self):
        """For each run begun: the steps ahead of it, the steps behind it."""
        return tuple(self.ran)

    def tree(self):
        """The tree as it is now."""
        return self.book.tree()

    def latches(self):
        """A copy of the latches as they are now."""
        return self.table.copied()

    def can_step(self, hand):
        """Whether the hand is not through and does not wait."""
        return not self.is_through(hand) and self.table.awaited(hand) is None

    def is_through(self, hand):
        """Whether all deeds of the hand are done."""
        if not self.has_hand(hand):
            raise NoHand("these have no such hand")
        return len(self.told[hand]) == len(self.programs[hand])

    def has_hand(self, thing):
        """Whether it is one of these hands, whatever it is."""
        return is_between(thing, 0, len(self.programs) - 1)

    def points(self):
        """(hand, deed, answer) of each point that came, in order."""
        return tuple(self.come)

    def history(self):
        """(hand, deed, answer, begin, end) of each deed done, as they ended."""
        return tuple(self.ended)

    def answers(self):
        """For each hand the answers of its deeds done."""
        return tuple([tuple(answers) for answers in self.told])

    def likeness(self):
        """All that makes two of these equal."""
        minds = [None if mind is None else mind.all_told() for mind in self.minds]
        return (self.tree(), self.answers(), minds, self.ahead)

    def __eq__(self, other):
        """Whether other are hands alike in all that counts for what is still to come and for orders."""
        if not isinstance(other, Hands):
            return False
        return self.table == other.table and self.likeness() == other.likeness()

    def __len__(self):
        """How many deeds are done."""
        return len(self.ended)
