"""States on the way through records: which are done, and what the plain map has then."""

from latchgrove.deeds.maps import done_to
from latchgrove.errors import TooWide

MOST_STATES = 400


class Times:
    """Records, and for each the told ones that must stand ahead of it."""

    def __init__(self, records):
        self.records = records
        self.ahead = [told_ahead(records, record) for record in records]
        self.answered = [number for number, record in enumerate(records) if record[3] is not None]

    def may_come(self, number, done):
        """Whether the record is not done, and all are that must stand ahead of it."""
        return number not in done and all([other in done for other in self.ahead[number]])

    def all_told_in(self, done):
        """Whether all told records are done."""
        return all([number in done for number in self.answered])


def told_ahead(records, record):
    """The numbers of the told records whose end is below this one's begin."""
    return [number for number, other in enumerate(records) if other[3] is not None and other[3] < record[2]]


def next_states(times, state):
    """By the number of the record that comes next, the states that come next."""
    done, pairs = state
    after = {}
    for number, record in enumerate(times.records):
        if not times.may_come(number, done):
            continue
        deed, answer, _, end = record
        plain = dict(pairs)
        found = done_to(plain, deed)
        if end is None or found == answer:
            after[number] = (tuple(sorted([*done, number])), tuple(sorted(plain.items())))
    return after


def states_from(times, start):
    """All states that come of the first one, each with one way there; refused where there are too many."""
    ways = {((), start): ()}
    going = [((), start)]
    while going:
        state = going.pop()
        for number, after in next_states(times, state).items():
            if after not in ways:
                ways[after] = (*ways[state], number)
                going.append(after)
        if len(ways) > MOST_STATES:
            raise TooWide("more than 400 states come of the first one")
    return ways
