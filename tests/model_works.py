"""Second works, written from DOC.md [31] and [32] in another way: hands whose deeds end with a telling of their own,
a log of which the first so many rows are on the disk, and trees that are done anew from the first one by the points.
"""

from tests.model import Model
from tests.model_disk import behind_writes, all_writes, group_for, parts_of_log
from tests.model_hands import HandsModel
from tests.model_latches import LatchModel


class WorksModel(HandsModel):
    def __init__(self, tree, programs, rule):
        super().__init__(tree, programs, rule)
        self.first = tree
        # Rows by their numbers, those cut away among them, those lost not; how many are on the disk.
        self.log, self.there, self.cut = [], 0, 0
        self.pages = {0: (0, ("head", tree[1])), **{number: (0, page) for number, page in tree[2]}}
        self.at = [0] * len(programs)
        self.records, self.mine = [], [None] * len(programs)
        self.point_of, self.answer_of = [], {}
        self.events = 0

    def through(self, hand):
        return self.at[hand] == len(self.programs[hand])

    def can(self, hand):
        if self.through(hand) or self.latches.awaited(hand) is not None:
            return False
        if self.going[hand] is None or self.act[hand] != ("answer",):
            return True
        return dict(self.point_of)[self.mine[hand]] <= self.there

    def acts(self, deed):
        yield from super().acts(deed)
        yield ("answer",)

    def disk(self):
        pages = tuple((number, *self.pages[number]) for number in sorted(self.pages))
        return (self.now[0], self.cut, tuple(self.log[self.cut:self.there]), pages)

    def told_history(self):
        return tuple(tuple(record) for record in self.records)

    def told_points(self):
        return tuple(number for number, _ in self.point_of)

    def step(self, hand):
        deed = self.programs[hand][self.at[hand]]
        if self.going[hand] is None:
            self.mine[hand] = len(self.records)
            self.records.append([deed, None, self.events, None])
            self.going[hand] = self.acts(deed)
            self.act[hand] = next(self.going[hand])
        word, *rest = self.act[hand]
        number, given = self.mine[hand], []
        if word == "answer":
            self.records[number][1:] = [self.answer_of[number], self.records[number][2], self.events]
            self.over(hand)
            return ("answer", self.answer_of[number])
        if word == "take":
            had = self.latches.take(hand, *rest)
            if had:
                self.go_on(hand)
            return ("take", *rest, had)
        if word == "let":
            given = self.latches.let(hand, *rest)
            self.go_on(hand)
            for other, _ in given:
                self.go_on(other)
            return ("let", *rest)
        ahead = self.now
        self.answer_of[number] = rest[0]()
        self.log += group_for(ahead, self.now, len(self.log) + 1)
        self.point_of.append((number, len(self.log)))
        self.go_on(hand)
        return ("point", self.answer_of[number])

    def over(self, hand):
        self.at[hand] += 1
        self.going[hand] = self.act[hand] = self.mine[hand] = None

    def last_about(self, number):
        return max([row[0] for row in self.log[self.cut:] if row[1] == number], default=None)

    def can_come(self, event):
        """Whether an event of a right kind can come; of other things this is not asked."""
        word, part = event
        if word == "step":
            return part in range(len(self.programs)) and self.can(part)
        if word == "log":
            return 1 <= part <= len(self.log) - self.there
        if word == "page":
            last = self.last_about(part)
            return last is not None and last <= self.there
        if word == "cut":
            whole = self.cut + len(parts_of_log(self.disk())[0])
            rows = self.log[self.cut:part]
            return self.cut <= part <= whole and all(self.pages.get(row[1], (self.cut,))[0] >= row[0] for row in rows)
        return word == "fall"

    def come(self, event):
        word, part = event
        told = None
        if word == "step":
            told = self.step(part)
        elif word == "log":
            self.there += part
        elif word == "page":
            page = ("head", self.now[1]) if part == 0 else self.page(part)
            self.pages[part] = (self.last_about(part), page)
        elif word == "cut":
            self.cut = part
        else:
            self.fall(part)
        self.events += 1
        return told

    def fall(self, parts):
        self.point_of = [(number, row) for number, row in self.point_of if row <= self.there]
        disk = self.disk()
        for part in parts + (10 ** 6,):
            disk = behind_writes(disk, min(part, all_writes(disk)))
        self.pages = {number: (mark, page) for number, mark, page in disk[3]}
        self.there = self.cut + len(disk[2])
        self.log = self.log[:self.there]
        model = Model(self.first)
        for number, _ in self.point_of:
            deed = self.records[number][0]
            if deed[0] in ("put", "drop"):
                getattr(model, deed[0])(*deed[1:])
        self.now = model.tree()
        self.latches = LatchModel()
        for hand, number in enumerate(self.mine):
            if number is not None:
                self.over(hand)
