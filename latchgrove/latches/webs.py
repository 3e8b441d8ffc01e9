"""All that plans can come to: their states, and which step leads from one to which."""

from latchgrove.errors import TooWide
from latchgrove.latches.table import Latches

MOST_STATES = 300


class Play:
    """Plans on their way: how far each hand is, and the latches."""

    def __init__(self, plans):
        self.plans = plans
        self.far = [0 for _ in plans]
        self.table = Latches()

    def can_step(self, hand):
        """Whether the hand is not through and does not wait."""
        return self.far[hand] < len(self.plans[hand]) and self.table.awaited(hand) is None

    def step(self, hand):
        """Do the next step of a hand that can step; a take that waits is done when it is had."""
        act = self.plans[hand][self.far[hand]]
        if act[0] == "let":
            given = self.table.let(hand, act[1])
            for other in [hand, *[one for one, _ in given]]:
                self.far[other] += 1
        elif self.table.take(hand, act[1], alone=act[2]):
            self.far[hand] += 1

    def state(self):
        """How far the hands are, and who holds and awaits what."""
        hands = range(len(self.plans))
        held = tuple([self.table.held(hand) for hand in hands])
        awaited = {page: True for page in [self.table.awaited(hand) for hand in hands] if page is not None}
        queues = tuple([(page, self.table.queue(page)) for page in sorted(awaited)])
        return (tuple(self.far), held, queues)

    def copied(self):
        """A play like this one, that goes on by itself."""
        other = Play(self.plans)
        other.far = list(self.far)
        other.table = self.table.copied()
        return other


class Web:
    """Plays in each state that plans can come to, numbered as they are found.

    For each, weavings has one that leads to it, and moves, by the hand that steps, the next ones' numbers.
    """

    def __init__(self, plans):
        self.hands = list(range(len(plans)))
        self.plays = [Play(plans)]
        self.weavings = [()]
        self.moves = []

    def behind(self, weaving):
        """The number of the state that the weaving leads to."""
        at = 0
        for hand in weaving:
            at = self.moves[at].get(hand, at)
        return at


def web_of(plans):
    """The web of the plans; refused where there are too many states."""
    web = Web(plans)
    numbers = {web.plays[0].state(): 0}
    while len(web.moves) < len(web.plays):
        at = len(web.moves)
        here = web.plays[at]
        moves = {}
        for hand in web.hands:
            if not here.can_step(hand):
                continue
            play = here.copied()
            play.step(hand)
            state = play.state()
            if state not in numbers:
                numbers[state] = len(web.plays)
                web.plays.append(play)
                web.weavings.append((*web.weavings[at], hand))
            moves[hand] = numbers[state]
        web.moves.append(moves)
        if len(web.plays) > MOST_STATES:
            raise TooWide("the plans can come to more than 300 states")
    return web
