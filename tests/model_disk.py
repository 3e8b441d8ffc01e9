"""A second reading of disks, written from DOC.md [26] to [30] page by page, and disks made as hands would leave them."""

from tests.helpers import random_deed
from tests.model import Model


def parts_of_log(disk):
    """The rows of whole groups, and those of a group cut off."""
    whole, going = [], []
    for row in disk[2]:
        going.append(row)
        if row[4]:
            whole, going = whole + going, []
    return whole, going


def read_page(disk, number):
    """(mark, page) of one page as it comes up."""
    listed = [(mark, page) for one, mark, page in disk[3] if one == number]
    mark, page = listed[0] if listed else (disk[1], None)
    whole, broken = [[row for row in rows if row[1] == number] for rows in parts_of_log(disk)]
    if whole and whole[-1][0] > mark:
        mark, page = whole[-1][0], whole[-1][3]
    for row in broken:
        if mark >= row[0]:
            mark, page = (whole[-1][0] if whole else disk[1]), row[2]
    return mark, page


def numbers_on(disk):
    return sorted({row[1] for row in disk[2]} | {row[0] for row in disk[3]})


def tree_on(disk):
    """What stands behind coming up, as a tree would, whether it is one or not."""
    pages = {number: read_page(disk, number)[1] for number in numbers_on(disk)}
    head = pages.pop(0, None)
    return (disk[0], head and head[1], tuple((number, page) for number, page in pages.items() if page is not None))


def writes_on(disk):
    listed = {number: (mark, page) for number, mark, page in disk[3]}
    told = []
    for number in numbers_on(disk):
        if read_page(disk, number) != listed.get(number, (disk[1], None)):
            told.append((number, *read_page(disk, number)))
    return told


def behind_writes(disk, many):
    """The disk behind so many writes, page by page; behind one more the group cut off is gone."""
    writes = writes_on(disk)
    pages = {row[0]: row for row in disk[3]}
    pages.update({row[0]: row for row in writes[:many]})
    rows = disk[2]
    if many > len(writes):
        rows = tuple(parts_of_log(disk)[0])
        last = rows[-1][0] if rows else disk[1]
        pages = {number: (number, min(mark, last), page) for number, mark, page in pages.values()}
    return (disk[0], disk[1], rows, tuple(pages[number] for number in sorted(pages)))


def all_writes(disk):
    return len(writes_on(disk)) + (parts_of_log(disk)[1] != [])


def changes(one, other):
    """(number, before, after) of what is unlike in two trees, the head's row first."""
    before, after = dict(one[2]), dict(other[2])
    rows = [] if one[1] == other[1] else [(0, ("head", one[1]), ("head", other[1]))]
    for number in sorted(set(before) | set(after)):
        if before.get(number) != after.get(number):
            rows.append((number, before.get(number), after.get(number)))
    return rows


def group_for(one, other, number):
    rows = changes(one, other)
    return tuple((number + at, *row, at + 1 == len(rows)) for at, row in enumerate(rows))


class Logged:
    """A tree, what it becomes deed by deed, and the rows of that."""

    def __init__(self, draw, tree, deeds, greatest, words=("put", "put", "drop")):
        self.draw, self.trees, self.rows, self.ends = draw, [tree], [], [0]
        for _ in range(deeds):
            model = Model(self.trees[-1])
            deed = random_deed(draw, greatest, words)
            getattr(model, deed[0])(*deed[1:])
            rows = group_for(self.trees[-1], model.tree(), len(self.rows) + 1)
            if rows:
                self.rows += rows
                self.ends.append(len(self.rows))
                self.trees.append(model.tree())

    def page_at(self, number, row):
        """The page as it is behind so many rows; None where it isn't there."""
        page = dict(self.trees[0][2]).get(number)
        if number == 0:
            page = ("head", self.trees[0][1])
        for _, other, _, after, _ in self.rows[:row]:
            if other == number:
                page = after
        return page

    def about(self, number, row):
        """The last of the first so many rows that is about the page, or 0."""
        return max([0] + [one[0] for one in self.rows[:row] if one[1] == number])

    def numbers(self):
        return sorted({0} | {number for number, _ in self.trees[0][2]} | {row[1] for row in self.rows})

    def disk(self, last, cut=0):
        """A disk of the rows behind the cut up to the last one, each page as it was at some row, but with the cut's
        rows in it; and the tree that comes up."""
        draw, pages = self.draw, []
        for number in self.numbers():
            row = draw.randint(cut, last)
            page, mark = self.page_at(number, row), self.about(number, row)
            mark = draw.choice((mark, mark, row, max(mark, min(cut, row))))
            if page is None and mark <= cut:
                # Nothing is there, or nothing stands there as nothing.
                if number == 0 or draw.randint(0, 2):
                    continue
            pages.append((number, mark, page))
        whole = max(end for end in self.ends if end <= last)
        tree = self.trees[self.ends.index(whole)]
        return (tree[0], cut, tuple(self.rows[cut:last]), tuple(pages)), tree
