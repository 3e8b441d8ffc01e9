"""The counting behind the numbers of shapes.

A shape is read as a row of choices from left to right: at each page, behind each of
its parts, whether it ends there or has one more. To end comes first, as Python sorts a
tuple ahead of a longer one that begins with it, and a smaller number ahead of a greater.
A leaf is counted as a page whose parts are pairs, so one way of counting serves all.
"""

from latchgrove.pages.kinds import half_of


def folded(kinds, behind):
    """In how many ways one kid and what is behind it can stand, by the pairs left ahead of it."""
    ways = [0] * len(behind)
    for pairs, many in kinds:
        for left in range(pairs, len(behind)):
            ways[left] += many * behind[left - pairs]
    return ways


class Tally:
    """The counts of shapes of trees of so many pairs and a room, and of their pages."""

    def __init__(self, many, room):
        self.pairs = many
        self.room = room
        self.half = half_of(room)
        # Behind the whole tree there is one way to go on, and no pair may be left.
        self.ended = [1] + [0] * many
        self.kinds = [[(1, 1)]]
        while self.kinds[-1]:
            ways = self.ways(len(self.kinds), self.half, self.ended)[0]
            self.kinds.append([(pairs, ways[pairs]) for pairs in range(many + 1) if ways[pairs] > 0])

    def ways(self, height, least, behind):
        """For each number of parts that a page of this height has so far: in how many ways
        it and what is behind it can go on, by the pairs left.
        """
        rows = [behind]
        for parts in range(self.room - 1, -1, -1):
            row = folded(self.kinds[height - 1], rows[-1])
            if parts >= least:
                row = [one + other for one, other in zip(row, behind)]
            rows.append(row)
        return rows[::-1]

    def root_least(self, height):
        """How many parts a root of this height has at least."""
        return 0 if height == 1 else 2

    def by_height(self):
        """How many shapes there are of each height, from 1 on."""
        heights = range(1, len(self.kinds))
        return [self.ways(height, self.root_least(height), self.ended)[0][self.pairs] for height in heights]

    def shape_by(self, height, number):
        """The shape of this number among those of this height."""
        return self.page_by(height, self.root_least(height), self.ended, self.pairs, number)[0]

    def page_by(self, height, least, behind, left, number):
        """The page's shape by the number among all ways from here on; then the pairs left
        behind the page, and the number among the ways there.
        """
        rows = self.ways(height, least, behind)
        kids = []
        while True:
            ending = behind[left] if len(kids) >= least else 0
            if number < ending:
                break
            number -= ending
            if height == 1:
                kid = 1
                left -= 1
            else:
                kid, left, number = self.page_by(height - 1, self.half, rows[len(kids) + 1], left, number)
            kids.append(kid)
        return (len(kids) if height == 1 else tuple(kids)), left, number

    def number_by(self, height, shape):
        """The number of the shape among those of this height."""
        return self.ways_ahead(height, self.root_least(height), self.ended, self.pairs, shape)[0]

    def ways_ahead(self, height, least, behind, left, shape):
        """How many of the ways from here on come ahead of those that begin with this page;
        then the pairs left behind the page.
        """
        rows = self.ways(height, least, behind)
        kids = [1] * shape if height == 1 else shape
        number = 0
        for at, kid in enumerate(kids):
            if at >= least:
                number += behind[left]
            if height == 1:
                left -= 1
            else:
                ahead, left = self.ways_ahead(height - 1, self.half, rows[at + 1], left, kid)
                number += ahead
        return number, left
