import unittest

from latchgrove.disk.logs import fresh_disk, is_disk
from latchgrove.disk.parts import cut_to, put_up, writes_up
from latchgrove.disk.up import up
from latchgrove.errors import NoCut, NoDisk, NoNumber
from latchgrove.pages.trees import empty
from tests.helpers import ANYTHING, NO_WHOLE, Drawn, outcome, random_tree
from tests.model_disk import Logged, all_writes, behind_writes, parts_of_log, read_page, writes_on

BIG = 10 ** 39
FULL, LEFT = ("leaf", ((10, 10), (20, 20), (30, 30)), 0), ("leaf", ((10, 10), (20, 20)), 2)
RIGHT, MORE = ("leaf", ((30, 30), (40, 4)), 0), ("leaf", ((30, 30), (40, 4), (50, 5)), 0)
ROOT, HEADS = ("node", (30,), (1, 2)), (("head", 1), ("head", 3))
ROWS = ((1, 0, *HEADS, False), (2, 1, FULL, LEFT, False), (3, 2, None, RIGHT, False), (4, 3, None, ROOT, True),
        (5, 2, RIGHT, MORE, True))
OLD = ((0, 0, HEADS[0]), (1, 0, FULL))
NEW = ((0, 1, HEADS[1]), (1, 2, LEFT), (2, 5, MORE), (3, 4, ROOT))


def random_disk(draw):
    """A disk as hands leave it, or one with any marks and pages left out."""
    logged = Logged(draw, random_tree(draw, 3, draw.randint(1, 2), 30), 5, 30)
    last = draw.randint(0, len(logged.rows))
    whole = max(end for end in logged.ends if end <= last)
    disk = logged.disk(last, draw.choice((0, draw.randint(0, whole))))[0]
    if draw.randint(0, 2) == 0:
        pages = [(number, draw.randint(0, last), page) for number, _, page in disk[3]]
        disk = disk[:3] + (tuple(row for row in pages if draw.randint(0, 9)),)
    return disk


class WritesTest(unittest.TestCase):
    def check(self, disk):
        before, tree = repr(disk), outcome(up, disk)
        writes = writes_up(disk)
        self.assertEqual(writes, tuple(writes_on(disk)))
        self.assertEqual(writes_up(disk), writes)
        many = all_writes(disk)
        for at in range(many + 1):
            part = put_up(disk, at)
            self.assertEqual(part, behind_writes(disk, at))
            self.assertIs(is_disk(part), True)
            # From each the same tree comes up, and the rest is written.
            self.assertEqual(outcome(up, part), tree)
            self.assertEqual(writes_up(part), writes[at:])
            self.assertEqual(put_up(part, many - at), put_up(disk, many))
            for more in range(many - at + 1):
                self.assertEqual(put_up(part, more), put_up(disk, at + more))
        for thing in (many + 1, many + 2, many + 400, BIG, -1, -BIG) + NO_WHOLE:
            self.assertEqual(outcome(put_up, disk, thing), ("raised", NoNumber))
        whole = put_up(disk, many)
        self.assertEqual((writes_up(whole), put_up(whole, 0), parts_of_log(whole)[1]), ((), whole, []))
        for number, mark, page in whole[3]:
            self.assertEqual(page, read_page(disk, number)[1])
        self.assertEqual(repr(disk), before)
        return writes

    def test_written_out(self):
        self.assertEqual(writes_up((3, 0, ROWS, OLD)), NEW)
        self.assertEqual(put_up((3, 0, ROWS, OLD), 0), (3, 0, ROWS, OLD))
        self.assertEqual(put_up((3, 0, ROWS, OLD), 1), (3, 0, ROWS, ((0, 1, HEADS[1]), OLD[1])))
        self.assertEqual(put_up((3, 0, ROWS, OLD), 3), (3, 0, ROWS, NEW[:3]))
        self.assertEqual(put_up((3, 0, ROWS, OLD), 4), (3, 0, ROWS, NEW))
        # Pages by their marks alone.
        disk = (3, 0, ROWS, ((0, 0, HEADS[1]), (1, 2, LEFT), (2, 4, MORE), (3, 5, ROOT)))
        self.assertEqual(writes_up(disk), ((0, 1, HEADS[1]), (2, 5, MORE)))
        # A page by itself alone.
        disk = (3, 0, ((1, 1, FULL, LEFT, False),), ((1, 1, LEFT),))
        self.assertEqual(writes_up(disk), ((1, 0, FULL),))
        disk = (3, 0, ((1, 1, LEFT, FULL, True), (2, 1, FULL, LEFT, False)), ((1, 2, LEFT),))
        self.assertEqual(writes_up(disk), ((1, 1, FULL),))
        # Nothing to write.
        for disk in ((3, 0, ROWS, NEW), (3, 0, (), OLD), (3, 7, (), ()), (3, 5, (), NEW), fresh_disk(empty())):
            self.assertEqual((writes_up(disk), put_up(disk, 0)), ((), disk))
            self.check(disk)
        for last in range(6):
            self.check((3, 0, ROWS[:last], OLD))
            self.check((3, 0, ROWS[:last], ()))

    def test_the_last_write_drops_a_group_cut_off(self):
        # Marks of rows that go become the last row's number; of pages that the group is not about, too.
        other = ("leaf", (), 0)
        rows = ((1, 1, FULL, LEFT, True), (2, 1, LEFT, FULL, False), (3, 2, None, RIGHT, False))
        disk = (3, 0, rows, ((0, 3, HEADS[0]), (1, 0, FULL), (2, 2, None), (7, 1, other), (8, 3, None), (9, 2, other)))
        self.assertEqual(writes_up(disk), ((1, 1, LEFT),))
        pages = disk[3][:1] + ((1, 1, LEFT),) + disk[3][2:]
        self.assertEqual(put_up(disk, 1), (3, 0, rows, pages))
        self.assertEqual(put_up(disk, 2), (3, 0, rows[:1], (
            (0, 1, HEADS[0]), (1, 1, LEFT), (2, 1, None), (7, 1, other), (8, 1, None), (9, 1, other))))
        self.assertEqual(outcome(put_up, disk, 3), ("raised", NoNumber))
        self.check(disk)
        # Where there is none left they become the cut.
        rows = ((8, 1, FULL, LEFT, False), (9, 2, None, RIGHT, False))
        disk = (3, 7, rows, ((0, 9, HEADS[0]), (1, 8, LEFT), (2, 8, RIGHT), (3, 3, None)))
        self.assertEqual(writes_up(disk), ((1, 7, FULL),))
        self.assertEqual(put_up(disk, 2), (3, 7, (), ((0, 7, HEADS[0]), (1, 7, FULL), (2, 7, RIGHT), (3, 3, None))))
        self.check(disk)

    def test_a_page_that_becomes_none_stands_among_the_pages(self):
        rows = ((3, 5, LEFT, None, True), (4, 6, None, RIGHT, False), (5, 7, RIGHT, LEFT, False))
        disk = (3, 2, rows, ((5, 0, LEFT), (6, 4, RIGHT), (7, 2, RIGHT)))
        self.assertEqual(writes_up(disk), ((5, 3, None), (6, 2, None)))
        self.assertEqual(put_up(disk, 2), (3, 2, rows, ((5, 3, None), (6, 2, None), (7, 2, RIGHT))))
        self.assertEqual(put_up(disk, 3), (3, 2, rows[:1], ((5, 3, None), (6, 2, None), (7, 2, RIGHT))))
        self.check(disk)
        # Where it wasn't there, too: its mark is another one then.
        disk = (3, 2, rows[:1], ((7, 2, RIGHT),))
        self.assertEqual(writes_up(disk), ((5, 3, None),))
        self.assertEqual(put_up(disk, 1), (3, 2, rows[:1], ((5, 3, None), (7, 2, RIGHT))))
        self.check(disk)

    def test_disks_of_all_sorts(self):
        draw = Drawn(131)
        seen = {"none": 0, "whole": 0, "broken": 0, "sinks": 0, "marks": 0, "gone": 0}
        for turn in range(220):
            disk = random_disk(draw)
            writes = self.check(disk)
            there = {number: page for number, _, page in disk[3]}
            seen["marks"] += any(number in there and there[number] == page for number, _, page in writes)
            seen["gone"] += any(page is None for _, _, page in writes)
            seen["sinks"] += outcome(up, disk)[0] == "raised"
            seen["broken" if parts_of_log(disk)[1] else "whole" if disk[2] else "none"] += 1
        self.assertGreater(min(seen.values()), 10, seen)

    def test_no_disk(self):
        for thing in ANYTHING + (list(fresh_disk(empty())), (3, 0, ROWS, list(OLD)), (3, 0, ROWS[1:], OLD)):
            self.assertEqual(outcome(writes_up, thing), ("raised", NoDisk))
            for many in (0, 1, thing, -1, BIG):
                self.assertEqual(outcome(put_up, thing, many), ("raised", NoDisk))
                self.assertEqual(outcome(cut_to, thing, many), ("raised", NoDisk))


class CutTest(unittest.TestCase):
    def stops(self, disk, number):
        """By [30], row by row: the number of the first that must stay, or None."""
        whole = parts_of_log(disk)[0]
        marks = {page: mark for page, mark, _ in disk[3]}
        for row in disk[2]:
            if row[0] <= number and (row not in whole or marks.get(row[1], disk[1]) < row[0]):
                return row[0]
        return None

    def check(self, disk):
        before, tree = repr(disk), outcome(up, disk)
        cuts = stops = 0
        for number in range(disk[1], disk[1] + len(disk[2]) + 1):
            stop = self.stops(disk, number)
            if stop is None:
                cut = cut_to(disk, number)
                self.assertEqual(cut, (disk[0], number, disk[2][number - disk[1]:], disk[3]))
                self.assertIs(is_disk(cut), True)
                self.assertEqual(outcome(up, cut), tree)
                cuts += number > disk[1]
            else:
                with self.assertRaises(NoCut) as caught:
                    cut_to(disk, number)
                self.assertEqual(caught.exception.row, stop)
                self.assertIs(type(caught.exception.row), int)
                stops += 1
        for thing in (disk[1] - 1, disk[1] + len(disk[2]) + 1, -1, BIG, -BIG) + NO_WHOLE:
            self.assertEqual(outcome(cut_to, disk, thing), ("raised", NoNumber))
        self.assertEqual(repr(disk), before)
        return cuts, stops

    def test_written_out(self):
        disk = (3, 0, ROWS, NEW)
        self.assertEqual(cut_to(disk, 0), disk)
        # In the midst of a group, too.
        for number in range(6):
            self.assertEqual(cut_to(disk, number), (3, number, ROWS[number:], NEW))
        self.assertEqual(cut_to((3, 3, ROWS[3:], NEW), 4), (3, 4, ROWS[4:], NEW))
        self.assertEqual(cut_to((3, 5, (), NEW), 5), (3, 5, (), NEW))
        self.check(disk)

    def row_of(self, disk, number):
        with self.assertRaises(NoCut) as caught:
            cut_to(disk, number)
        return caught.exception.row

    def test_the_first_row_that_stops_it(self):
        # A row of a group cut off, whatever its page's mark is.
        for last in range(1, 4):
            for number in range(1, last + 1):
                self.assertEqual(self.row_of((3, 0, ROWS[:last], ((0, last, HEADS[1]),)), number), 1)
        broken = ROWS + ((6, 0, HEADS[1], HEADS[0], False), (7, 2, MORE, None, False))
        self.assertEqual(cut_to((3, 0, broken, NEW), 5), (3, 5, broken[5:], NEW))
        for number in (6, 7):
            self.assertEqual(self.row_of((3, 0, broken, ((0, 7, HEADS[1]),) + NEW[1:2] + ((2, 7, None),) + NEW[3:]), number), 6)
        # A page that is marked less, one that isn't there.
        for page, first in ((0, 1), (1, 2), (2, 3), (3, 4)):
            fewer = NEW[:page] + ((page, first - 1, NEW[page][2]),) + NEW[page + 1:]
            for pages in (fewer, NEW[:page] + NEW[page + 1:]):
                for number in range(6):
                    if number < first:
                        self.assertEqual(cut_to((3, 0, ROWS, pages), number)[1], number)
                    else:
                        self.assertEqual(self.row_of((3, 0, ROWS, pages), number), first)
        pages = NEW[:2] + ((2, 4, RIGHT),) + NEW[3:]
        self.assertEqual((cut_to((3, 0, ROWS, pages), 4)[1], self.row_of((3, 0, ROWS, pages), 5)), (4, 5))
        # Both: the page's row is ahead of the group cut off.
        self.assertEqual(self.row_of((3, 0, broken, pages), 7), 5)
        self.assertEqual(self.row_of((3, 0, broken, NEW), 7), 6)
        # A page that is None and marked is there.
        rows = ((1, 4, RIGHT, None, True),)
        self.assertEqual(cut_to((3, 0, rows, ((4, 1, None),)), 1), (3, 1, (), ((4, 1, None),)))
        self.assertEqual(self.row_of((3, 0, rows, ()), 1), 1)

    def test_disks_of_all_sorts(self):
        draw = Drawn(132)
        cuts = stops = 0
        for turn in range(200):
            disk = random_disk(draw)
            for many in (0, draw.randint(0, all_writes(disk)), all_writes(disk)):
                told = self.check(put_up(disk, many))
                cuts, stops = cuts + told[0], stops + told[1]
        self.assertGreater(min(cuts, stops), 200)

    def test_a_disk_that_has_come_up_can_be_cut_to_its_end(self):
        draw = Drawn(133)
        for turn in range(60):
            disk = random_disk(draw)
            whole = put_up(disk, all_writes(disk))
            last = whole[1] + len(whole[2])
            self.assertEqual(cut_to(whole, last), (whole[0], last, (), whole[3]))
            self.assertEqual(outcome(up, cut_to(whole, last)), outcome(up, disk))
