"""The table of latches: which hands hold which pages, and which wait for them."""

from latchgrove.errors import Holds, HoldsNot, NoHand, NoPage, Waits
from latchgrove.latches.rings import ring_in
from latchgrove.pages.kinds import LAST_PAGE, is_between

LAST_HAND = 60


def need_hand(thing):
    """Refuse what is no hand."""
    if not is_between(thing, 0, LAST_HAND):
        raise NoHand("a hand is a whole number from 0 to 60")


def need_latch(thing):
    """Refuse what is no number of a page that is latched, the head's 0 among them."""
    if not is_between(thing, 0, LAST_PAGE):
        raise NoPage("a latched page is a whole number from 0 to 10 ** 6")


def may_hold(holders, alone):
    """Whether one more hand can hold the page beside these holders."""
    return not holders or not (alone or any(list(holders.values())))


class Latches:
    """Latches of pages for hands, shared or alone, and a queue for each page."""

    def __init__(self):
        # A page that nobody holds or waits for is in none of these, whatever was ahead.
        self.holding = {}
        self.lines = {}
        self.wanted = {}

    def take(self, hand, page, *, alone=False):
        """Take the page, or wait for it; tell whether it is held at once."""
        need_hand(hand)
        need_latch(page)
        self.need_no_wait(hand)
        holders = self.holding.get(page, {})
        if hand in holders:
            raise Holds("the hand holds this page")
        if page not in self.lines and may_hold(holders, alone):
            self.holding[page] = holders
            holders[hand] = alone
            return True
        self.lines[page] = [*self.lines.get(page, []), (hand, alone)]
        self.wanted[hand] = page
        return False

    def let(self, hand, page):
        """Let the page; tell (hand, alone) of those that hold it by that, in order."""
        need_hand(hand)
        need_latch(page)
        self.need_no_wait(hand)
        holders = self.holding.get(page, {})
        if hand not in holders:
            raise HoldsNot("the hand does not hold this page")
        del holders[hand]
        line = self.lines.get(page, [])
        given = []
        while line and may_hold(holders, line[0][1]):
            other, alone = line.pop(0)
            holders[other] = alone
            del self.wanted[other]
            given.append((other, alone))
        if not holders:
            del self.holding[page]
        if given and not line:
            del self.lines[page]
        return tuple(given)

    def need_no_wait(self, hand):
        """Refuse a hand that waits."""
        if hand in self.wanted:
            raise Waits("the hand waits for a page")

    def holders(self, page):
        """(hand, alone) of each hand that holds the page, rising."""
        need_latch(page)
        return tuple(sorted(self.holding.get(page, {}).items()))

    def queue(self, page):
        """(hand, alone) of each hand that waits for the page, in order."""
        need_latch(page)
        return tuple(self.lines.get(page, []))

    def held(self, hand):
        """(page, alone) of each page that the hand holds, rising."""
        need_hand(hand)
        return tuple(sorted([(page, hands[hand]) for page, hands in self.holding.items() if hand in hands]))

    def awaited(self, hand):
        """The page that the hand waits for, or None."""
        need_hand(hand)
        return self.wanted.get(hand)

    def blockers(self, hand):
        """The hands that this one waits for, in no order that means anything."""
        if hand not in self.wanted:
            return []
        page = self.wanted[hand]
        line = self.lines[page]
        at = [one for one, _ in line].index(hand)
        alone = line[at][1]
        ahead = list(self.holding[page].items()) + line[:at]
        return [one for one, sole in ahead if alone or sole]

    def ring(self):
        """Hands each of which waits for the next, the last for the first; None where there are none."""
        return ring_in({hand: self.blockers(hand) for hand in self.wanted})

    def state(self):
        """(page, holders, queue) of each page that anyone holds, rising; who waits, waits for a held one."""
        return tuple([(page, self.holders(page), self.queue(page)) for page in sorted(self.holding)])

    def copied(self):
        """Latches like these, that go on by themselves."""
        other = Latches()
        other.holding = {page: dict(hands) for page, hands in self.holding.items()}
        other.lines = {page: list(line) for page, line in self.lines.items()}
        other.wanted = dict(self.wanted)
        return other

    def __eq__(self, other):
        """Whether other are latches that are held and waited for alike."""
        if not isinstance(other, Latches):
            return False
        return self.state() == other.state()

    def __len__(self):
        """How many latches are held, one for each holder."""
        return len([hand for hands in self.holding.values() for hand in hands])
