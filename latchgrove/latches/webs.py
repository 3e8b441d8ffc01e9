"""All that hands can come to: the states of a play, and which step leads from one to which.

A play is anything with can_step(hand), step(hand), state() and copied(): plans or programs on their way.
"""

from latchgrove.errors import TooWide


class Web:
    """Plays in each state that a first one can come to, numbered as they are found.

    For each, weavings has one that leads to it, and moves, by the hand that steps, the next ones' numbers.
    """

    def __init__(self, play, many):
        self.hands = list(range(many))
        self.plays = [play]
        self.weavings = [()]
        self.moves = []
        self.numbers = {play.state(): 0}

    def go_on(self, at):
        """Find what each hand comes to that can step in the state of this number."""
        moves = {}
        for hand in self.hands:
            if not self.plays[at].can_step(hand):
                continue
            play = self.plays[at].copied()
            play.step(hand)
            state = play.state()
            if state not in self.numbers:
                self.numbers[state] = len(self.plays)
                self.plays.append(play)
                self.weavings.append((*self.weavings[at], hand))
            moves[hand] = self.numbers[state]
        self.moves.append(moves)


def web_from(play, many, most):
    """The web of a play of so many hands; refused where it has more than most states."""
    web = Web(play, many)
    while len(web.moves) < len(web.plays):
        web.go_on(len(web.moves))
        if len(web.plays) > most:
            raise TooWide(f"more than {most} states can be come to")
    return web
