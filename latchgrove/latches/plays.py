"""Plans on their way: how far each hand is, under latches."""

from latchgrove.latches.table import Latches


class Play:
    """Plans, how far the hands are in them, and the latches that they hold and wait for."""

    def __init__(self, plans):
        self.plans = plans
        self.far = [0 for _ in plans]
        self.table = Latches()

    def can_step(self, hand):
        """Whether the hand is not through and does not wait."""
        return self.far[hand] < len(self.plans[hand]) and self.table.awaited(hand) is None

    def step(self, hand):
        """Do the next step of a hand that can step; a take that waits is done when it is had."""
        act = self.plans[hand][self.far[hand]]
        if act[0] == "let":
            given = self.table.let(hand, act[1])
            for other in [hand, *[one for one, _ in given]]:
                self.far[other] += 1
        elif self.table.take(hand, act[1], alone=act[2]):
            self.far[hand] += 1

    def state(self):
        """How far the hands are, and who holds and awaits what."""
        return (tuple(self.far), self.table.state())

    def copied(self):
        """A play like this one, that goes on by itself."""
        other = Play(self.plans)
        other.far = list(self.far)
        other.table = self.table.copied()
        return other
