"""Hands at work together: the book they share, its latches, and what each hand has in mind."""

from latchgrove.hands.minds import Mind
from latchgrove.latches.table import Latches
from latchgrove.pages.books import Book


class Crew:
    """So many hands at one tree, each with one deed in mind or with none."""

    def __init__(self, tree, many):
        self.book = Book(tree)
        self.table = Latches()
        self.minds = [None for _ in range(many)]

    def begin(self, hand, deed, rule):
        """Give the hand a deed to do."""
        self.minds[hand] = Mind(deed, rule)

    def waits(self, hand):
        """Whether the hand waits for a page."""
        return self.table.awaited(hand) is not None

    def step(self, hand):
        """Do the act ahead of a hand that has one and does not wait; tell it."""
        act = self.minds[hand].acts[0]
        if act[0] == "take":
            return self.take(hand, act[1], act[2])
        if act[0] == "let":
            return self.let(hand, act[1])
        self.minds[hand].come_to_point(self.book)
        return ("point", self.minds[hand].answer)

    def take(self, hand, page, alone):
        """Take a page, which the hand has at once or waits for."""
        had = self.table.take(hand, page, alone=alone)
        if had:
            self.minds[hand].had(self.book)
        return ("take", page, alone, had)

    def let(self, hand, page):
        """Let a page, which those who waited for it may have by that."""
        given = self.table.let(hand, page)
        self.minds[hand].let()
        for other, _ in given:
            self.minds[other].had(self.book)
        return ("let", page)

    def state(self):
        """The tree, the latches, and what each hand has in mind."""
        minds = [None if mind is None else mind.all_told() for mind in self.minds]
        return (self.book.tree(), self.table.state(), tuple(minds))

    def copied(self):
        """A crew like this one, that goes on by itself."""
        other = Crew(self.book.tree(), 0)
        other.table = self.table.copied()
        other.minds = [None if mind is None else mind.copied() for mind in self.minds]
        return other
