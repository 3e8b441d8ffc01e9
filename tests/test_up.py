import unittest

from latchgrove.disk.logs import fresh_disk, is_disk
from latchgrove.disk.up import up
from latchgrove.errors import NoDisk
from latchgrove.pages.trees import empty, is_tree
from tests.helpers import ANYTHING, Drawn, outcome, random_tree, tree_of
from tests.model_disk import Logged, tree_on

# A put of 40 parts leaf 1 of room 3; then a put of 50 into leaf 2; then a drop of 10 puts all together.
FULL, LEFT = ("leaf", ((10, 10), (20, 20), (30, 30)), 0), ("leaf", ((10, 10), (20, 20)), 2)
RIGHT, MORE = ("leaf", ((30, 30), (40, 4)), 0), ("leaf", ((30, 30), (40, 4), (50, 5)), 0)
ROOT, HEADS = ("node", (30,), (1, 2)), (("head", 1), ("head", 3))
ROWS = ((1, 0, *HEADS, False), (2, 1, FULL, LEFT, False), (3, 2, None, RIGHT, False), (4, 3, None, ROOT, True),
        (5, 2, RIGHT, MORE, True))
BEFORE, PARTED, LAST = (3, 1, ((1, FULL),)), (3, 3, ((1, LEFT), (2, RIGHT), (3, ROOT))), (3, 3, ((1, LEFT), (2, MORE), (3, ROOT)))


class UpTest(unittest.TestCase):
    def comes(self, disk, tree):
        before = repr(disk)
        self.assertIs(is_disk(disk), True, disk)
        self.assertEqual(up(disk), tree)
        self.assertEqual(up(disk), tree)
        self.assertEqual(tree_on(disk), tree)
        self.assertEqual(repr(disk), before)

    def sinks(self, disk):
        self.assertIs(is_disk(disk), True, disk)
        self.assertEqual(outcome(up, disk), ("raised", NoDisk))
        self.assertIs(is_tree(tree_on(disk)), False)

    def test_written_out(self):
        old = ((0, 0, HEADS[0]), (1, 0, FULL))
        trees = [BEFORE, BEFORE, BEFORE, BEFORE, PARTED, LAST]
        for last in range(6):
            self.comes((3, 0, ROWS[:last], old), trees[last])
            # The pages of the cut off group's rows that were written come back.
            for many in range(min(last, 4) + 1):
                pages = {0: (0, HEADS[0]), 1: (0, FULL)}
                for number, page, _, after, _ in ROWS[:many]:
                    pages[page] = (number, after)
                self.comes((3, 0, ROWS[:last], tuple((page, *pages[page]) for page in sorted(pages))), trees[last])
        # Nothing is there but what the rows bring.
        self.sinks((3, 0, ROWS[1:0], ()))
        self.comes((3, 0, ROWS[:4], ()), PARTED)
        self.sinks((3, 0, ROWS[:3], ()))
        self.sinks((3, 0, ROWS[:3], old[:1]))
        self.sinks((3, 0, ROWS[:3], old[1:]))
        self.comes((3, 0, ROWS[:3], old[:1] + ((1, 2, LEFT),)), BEFORE)
        self.sinks((3, 0, ROWS[:3], old[:1] + ((1, 1, LEFT),)))

    def test_marks_ahead_of_and_behind_the_rows(self):
        # A mark that is no less keeps the page as it is, whatever row it is of.
        self.comes((3, 0, ROWS, ((1, 2, LEFT), (2, 5, MORE), (3, 5, ROOT))), LAST)
        for mark in range(5):
            self.comes((3, 0, ROWS[:4], ((2, mark, RIGHT if mark >= 3 else None),)), PARTED)
        for mark in range(6):
            self.comes((3, 0, ROWS, ((2, mark, MORE if mark >= 5 else None),)), LAST)
        self.sinks((3, 0, ROWS, ((2, 5, None),)))
        self.comes((3, 0, ROWS, ((2, 4, None),)), LAST)
        self.comes((3, 0, ROWS, ((2, 5, RIGHT),)), PARTED)
        self.sinks((3, 0, ROWS, ((3, 4, None),)))
        self.sinks((3, 0, ROWS, ((0, 1, HEADS[0]),)))
        # Of a group cut off: where the mark is less the page stays.
        for mark in range(2):
            self.sinks((3, 0, ROWS[:2], ((0, 0, HEADS[0]), (1, mark, LEFT))))
        self.comes((3, 0, ROWS[:2], ((0, 0, HEADS[0]), (1, 2, LEFT))), BEFORE)
        alone = ("leaf", ((10, 10), (20, 20)), 0)
        rows = ((1, 1, FULL, alone, False),)
        self.comes((3, 0, rows, ((0, 0, HEADS[0]), (1, 0, alone))), (3, 1, ((1, alone),)))
        self.comes((3, 0, rows, ((0, 1, HEADS[0]), (1, 1, alone))), BEFORE)
        self.comes((3, 0, rows, ((0, 1, HEADS[0]), (1, 1, None))), BEFORE)

    def test_behind_a_cut(self):
        pages = ((0, 1, HEADS[1]), (1, 2, LEFT), (2, 3, RIGHT), (3, 4, ROOT))
        for cut in range(5):
            self.comes((3, cut, ROWS[cut:], pages), LAST)
            self.comes((3, cut, ROWS[cut:4], pages), PARTED)
        self.comes((3, 5, (), pages), PARTED)
        # What isn't there is marked cut: rows behind it make it.
        self.comes((3, 2, ROWS[2:], ((0, 0, HEADS[1]), (1, 1, LEFT))), LAST)
        self.sinks((3, 3, ROWS[3:4], ((0, 0, HEADS[1]), (1, 1, LEFT))))
        self.comes((3, 1, ROWS[1:], ((0, 0, HEADS[1]),)), LAST)

    def test_a_page_of_one_group_and_of_the_next_cut_off(self):
        # Its mark becomes that of the last row of a whole group about it: so it isn't done again.
        one, two, three = [("leaf", ((key, key),), 0) for key in (1, 2, 3)]
        rows = ((1, 1, one, two, True), (2, 1, two, three, False))
        for mark, page in ((0, one), (1, two), (2, three), (2, one), (2, two), (1, one), (1, three)):
            tree = (3, 1, ((1, page if mark == 1 else two),))
            self.comes((3, 0, rows, ((0, 0, HEADS[0]), (1, mark, page))), tree)

    def test_fresh_ones(self):
        draw = Drawn(121)
        for turn in range(24):
            tree = random_tree(draw, 3 + turn % 6, 1 + turn % 3, 10 ** 6)
            self.comes(fresh_disk(tree), tree)
            self.comes((tree[0], 9, ()) + fresh_disk(tree)[3:], tree)
        self.comes(fresh_disk(empty()), empty())

    def test_pages_as_they_were_at_any_row(self):
        draw = Drawn(122)
        broken = 0
        for turn in range(40):
            logged = Logged(draw, random_tree(draw, 3 + turn % 2, 1 + turn % 3, 90), 8, 90)
            for last in range(len(logged.rows) + 1):
                self.comes(*logged.disk(last))
                broken += last not in logged.ends
                whole = max(end for end in logged.ends if end <= last)
                self.comes(*logged.disk(last, draw.randint(0, whole)))
        self.assertGreater(broken, 100)

    def test_disks_of_any_pages(self):
        draw = Drawn(123)
        seen = {True: 0, False: 0}
        for turn in range(300):
            logged = Logged(draw, random_tree(draw, 3, 1, 6), 3, 6)
            last = draw.randint(0, len(logged.rows))
            disk = logged.disk(last)[0]
            pages = [(number, draw.randint(0, last), page) for number, _, page in disk[3]]
            pages = tuple(row for row in pages if draw.randint(0, 9))
            disk = disk[:3] + (pages,)
            seen[is_tree(tree_on(disk))] += 1
            if is_tree(tree_on(disk)):
                self.comes(disk, tree_on(disk))
            else:
                self.sinks(disk)
        self.assertGreater(min(seen.values()), 50)

    def test_disks_of_which_no_tree_comes(self):
        leaf = ("leaf", ((1, 1),), 0)
        for pages in ((), ((0, 0, HEADS[0]),), ((1, 0, leaf),), ((0, 0, HEADS[1]), (1, 0, leaf)),
                      ((0, 0, HEADS[0]), (1, 0, None)), ((0, 0, HEADS[0]), (1, 0, leaf), (2, 0, leaf)),
                      ((0, 0, HEADS[0]), (1, 0, ("leaf", ((1, 1),), 1))),
                      ((0, 0, HEADS[0]), (1, 0, ("leaf", ((1, 1), (2, 2), (3, 3), (4, 4)), 0))),
                      ((0, 0, HEADS[0]), (1, 0, ("node", (), (2,))), (2, 0, leaf))):
            self.sinks((3, 0, (), pages))
            self.sinks((3, 5, (), pages))
        self.comes((3, 0, (), ((0, 0, HEADS[0]), (1, 0, leaf), (2, 0, None))), (3, 1, ((1, leaf),)))
        # What is a tree of the one room is none of the other.
        self.comes((4, 0, (), ((0, 0, HEADS[0]), (1, 0, ("leaf", ((1, 1), (2, 2), (3, 3), (4, 4)), 0)))),
                   (4, 1, ((1, ("leaf", ((1, 1), (2, 2), (3, 3), (4, 4)), 0)),)))

    def test_no_disk(self):
        tree = tree_of(3, 1, {1: (10, 20)})
        good = fresh_disk(tree)
        for thing in ANYTHING + (tree, list(good), good[:3], (2,) + good[1:], (3, -1, (), good[3]),
                                 good[:3] + (good[3] + good[3],), good[:3] + (list(good[3]),),
                                 good[:3] + (((0, 1, ("head", 1)),),)):
            self.assertEqual(outcome(up, thing), ("raised", NoDisk))
