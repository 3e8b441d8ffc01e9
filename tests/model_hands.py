"""Second hands, written from DOC.md [17] to [20] in another way: each deed is a generator of what it
takes, lets and does, which goes on to its next act as soon as what it took is had.
"""

import bisect

from tests.helpers import half_of
from tests.model import Model
from tests.model_latches import LatchModel


def ranked(tree):
    """The head, then the pages' numbers level by level, each from left to right."""
    pages, row, level = dict(tree[2]), [0], [tree[1]]
    while level:
        row += level
        level = [kid for number in level if pages[number][0] == "node" for kid in pages[number][2]]
    return row


def height(tree):
    pages, number, many = dict(tree[2]), tree[1], 1
    while pages[number][0] == "node":
        number, many = pages[number][2][0], many + 1
    return many


class HandsModel:
    def __init__(self, tree, programs, rule):
        self.now, self.programs, self.rule = tree, programs, rule
        self.latches = LatchModel()
        self.going = [None] * len(programs)
        self.act = [None] * len(programs)
        self.done = [[] for _ in programs]
        self.begin = [None] * len(programs)
        self.steps, self.points, self.history = 0, [], []

    def page(self, number):
        return dict(self.now[2]).get(number)

    def by_rank(self, numbers):
        return sorted(numbers, key=ranked(self.now).index)

    def through(self, hand):
        return len(self.done[hand]) == len(self.programs[hand])

    def can(self, hand):
        return not self.through(hand) and self.latches.awaited(hand) is None

    def step(self, hand):
        if not self.can(hand):
            return None
        deed = self.programs[hand][len(self.done[hand])]
        if self.going[hand] is None:
            self.begin[hand] = self.steps
            self.going[hand] = self.acts(deed)
            self.act[hand] = next(self.going[hand])
        word, *rest = self.act[hand]
        given = []
        if word == "take":
            had = self.latches.take(hand, *rest)
            told = ("take", *rest, had)
            if had:
                self.go_on(hand)
        elif word == "let":
            given = self.latches.let(hand, *rest)
            told = ("let", *rest)
            self.go_on(hand)
        else:
            answer = rest[0]()
            told = ("point", answer)
            self.points.append((hand, deed, answer))
            self.go_on(hand)
        if self.act[hand] is None:
            answer = [one[2] for one in self.points if one[0] == hand][-1]
            self.done[hand].append(answer)
            self.history.append((hand, deed, answer, self.begin[hand], self.steps))
        for other, _ in given:
            self.go_on(other)
        self.steps += 1
        return told

    def go_on(self, hand):
        try:
            self.act[hand] = next(self.going[hand])
        except StopIteration:
            self.act[hand] = self.going[hand] = None

    def acts(self, deed):
        if deed[0] == "find":
            return self.loose_find(deed) if self.rule == "loose" else self.reading(deed)
        if deed[0] in ("span", "walk"):
            return self.reading(deed)
        return self.hopeful(deed) if self.rule == "hopeful" else self.writing(deed)

    def kid(self, page, key):
        return page[2][bisect.bisect_right(page[1], key)]

    def reading(self, deed):
        word, low = deed[0], deed[1]
        yield ("take", 0, False)
        above, number = 0, self.now[1]
        while True:
            yield ("take", number, False)
            page = self.page(number)
            yield ("let", above)
            if page[0] == "leaf":
                break
            above, number = number, self.kid(page, low)
        held, read = [number], list(page[1])
        while word != "find" and not any(key >= deed[2] for key, _ in page[1]) and page[2]:
            yield ("take", page[2], False)
            held.append(page[2])
            page = self.page(page[2])
            read += page[1]
            if word == "walk":
                yield ("let", held.pop(0))
        if word == "find":
            yield ("point", lambda: dict(read).get(low))
        else:
            yield ("point", lambda: tuple(pair for pair in read if low <= pair[0] < deed[2]))
        for number in self.by_rank(held):
            yield ("let", number)

    def loose_find(self, deed):
        yield ("take", 0, False)
        number = self.now[1]
        yield ("let", 0)
        while True:
            yield ("take", number, False)
            page = self.page(number)
            if page is None:
                yield ("point", lambda: "lost")
                break
            if page[0] == "leaf":
                yield ("point", lambda: dict(page[1]).get(deed[1]))
                break
            yield ("let", number)
            number = self.kid(page, deed[1])
        yield ("let", number)

    def safe(self, number, deed):
        page, half = self.page(number), half_of(self.now[0])
        many = len(page[1] if page[0] == "leaf" else page[2])
        has = page[0] == "leaf" and deed[1] in dict(page[1])
        if deed[0] == "put":
            return many < self.now[0] or has
        if number == self.now[1]:
            return page[0] == "leaf" or many > 2 or many > half
        return many > half or page[0] == "leaf" and not has

    def change(self, deed):
        model = Model(self.now)
        answer = getattr(model, deed[0])(*deed[1:])
        self.now = model.tree()
        return answer

    def mates(self, number):
        """The mate's number, and whether it is on the right."""
        for page in dict(self.now[2]).values():
            if page[0] == "node" and number in page[2]:
                at = page[2].index(number)
                return (page[2][at - 1], False) if at else (page[2][1], True)

    def writing(self, deed):
        yield ("take", 0, True)
        held, number = {0}, self.now[1]
        while True:
            yield ("take", number, True)
            if self.safe(number, deed):
                for one in self.by_rank(held):
                    yield ("let", one)
                held = {number}
            else:
                held.add(number)
                if deed[0] == "drop" and number != self.now[1]:
                    mate, right = self.mates(number)
                    held.add(mate)
                    if right:
                        yield ("take", mate, True)
                    else:
                        yield ("let", number)
                        yield ("take", mate, True)
                        yield ("take", number, True)
            page = self.page(number)
            if page[0] == "leaf":
                break
            number = self.kid(page, deed[1])
        ahead = self.by_rank(held)
        yield ("point", lambda: self.change(deed))
        for one in ahead:
            yield ("let", one)

    def hopeful(self, deed):
        yield ("take", 0, False)
        levels, above, number = height(self.now), 0, self.now[1]
        for level in range(levels):
            yield ("take", number, level == levels - 1)
            safe, page = self.safe(number, deed), self.page(number)
            yield ("let", above)
            if page[0] == "node":
                above, number = number, self.kid(page, deed[1])
        if safe:
            yield ("point", lambda: self.change(deed))
            yield ("let", number)
        else:
            yield ("let", number)
            yield from self.writing(deed)
