import unittest

from latchgrove.deeds.drops import drop
from latchgrove.deeds.puts import put
from latchgrove.deeds.rows import done, unlike
from latchgrove.disk.logs import fresh_disk, is_disk, rows_for
from latchgrove.errors import NoRoom, NoTree
from latchgrove.pages.trees import empty
from tests.helpers import ANYTHING, NO_WHOLE, Drawn, outcome, random_deed, random_tree, tree_of
from tests.model_disk import Logged, group_for

BIG = 10 ** 39
HEAD, LEAF, NODE = ("head", 3), ("leaf", ((5, 6), (7, 8)), 0), ("node", (5,), (1, 2))
# Behind the cut, 4: a group of three rows, one of one, two rows of a group cut off.
ROWS = ((5, 0, ("head", 1), HEAD, False), (6, 2, None, LEAF, False), (7, 3, LEAF, NODE, True), (8, 2, LEAF, None, True),
        (9, 0, HEAD, ("head", 2), False), (10, 7, NODE, LEAF, False))
PAGES = ((0, 5, HEAD), (2, 0, None), (3, 10, NODE), (9, 4, LEAF))
DISK = (4, 4, ROWS, PAGES)


def with_row(at, **parts):
    """DISK with one row that is otherwise in some parts."""
    names = ("number", "page", "before", "after", "last")
    row = tuple(parts.get(name, old) for name, old in zip(names, ROWS[at]))
    return (4, 4, ROWS[:at] + (row,) + ROWS[at + 1:], PAGES)


def with_disk_page(at, **parts):
    row = tuple(parts.get(name, old) for name, old in zip(("number", "mark", "page"), PAGES[at]))
    return (4, 4, ROWS, PAGES[:at] + (row,) + PAGES[at + 1:])


class RowsForTest(unittest.TestCase):
    def test_each_kind_of_deed(self):
        draw = Drawn(111)
        for turn in range(90):
            room, height = 3 + turn % 3, 1 + turn % 3
            tree = random_tree(draw, room, height, 900)
            keys = [key for _, page in tree[2] if page[0] == "leaf" for key, _ in page[1]]
            for deed in [random_deed(draw, 900) for _ in range(3)] + [("drop", draw.choice(keys or [1]))]:
                after = done(tree, (deed,))[0]
                number = draw.choice((1, 2, 77, 10 ** 6, BIG))
                rows = rows_for(tree, after, number=number)
                self.assertEqual(rows, group_for(tree, after, number))
                self.assertEqual(rows_for(tree, after), group_for(tree, after, 1))
                self.assertEqual(rows_for(tree, after, number=1), rows_for(tree, after))
                self.assertEqual(tuple(row[1:4] for row in rows), unlike(tree, after))
                self.assertTrue(all(row[4] is (row[0] == number + len(rows) - 1) for row in rows))
                if deed[0] in ("find", "span", "walk"):
                    self.assertEqual(rows, ())
                disk = (tree[0], number - 1, rows, ())
                self.assertIs(is_disk(disk), True)
                self.assertIs(is_disk((tree[0], number - 1, rows[:-1], ())), True)

    def test_written_out(self):
        full = tree_of(3, 1, {1: (10, 20, 30)})
        after = put(full, 40, 4)[0]
        left, right = ("leaf", ((10, 10), (20, 20)), 2), ("leaf", ((30, 30), (40, 4)), 0)
        self.assertEqual(rows_for(full, after, number=7), (
            (7, 0, ("head", 1), ("head", 3), False), (8, 1, full[2][0][1], left, False), (9, 2, None, right, False),
            (10, 3, None, ("node", (30,), (1, 2)), True)))
        again = drop(after, 10)[0]
        self.assertEqual(rows_for(after, again), (
            (1, 0, ("head", 3), ("head", 1), False), (2, 1, left, ("leaf", ((20, 20), (30, 30), (40, 4)), 0), False),
            (3, 2, right, None, False), (4, 3, ("node", (30,), (1, 2)), None, True)))
        # The head's own row comes just where the root changes.
        self.assertEqual([row[1] for row in rows_for(after, put(after, 50, 5)[0])], [2])
        self.assertEqual(rows_for(full, put(full, 10, 11)[0]), (
            (1, 1, full[2][0][1], ("leaf", ((10, 11), (20, 20), (30, 30)), 0), True),))

    def test_of_like_trees(self):
        draw = Drawn(112)
        for turn in range(20):
            tree = random_tree(draw, 3 + turn % 6, 1 + turn % 3, 10 ** 6)
            self.assertEqual((rows_for(tree, tree), rows_for(tree, tree, number=9)), ((), ()))
        self.assertEqual(rows_for(tree, tuple(list(tree))), ())

    def test_no_tree_then_no_room(self):
        for thing in ANYTHING:
            for other in (empty(), empty(room=3), thing):
                self.assertEqual(outcome(rows_for, thing, other), ("raised", NoTree))
                self.assertEqual(outcome(rows_for, other, thing, number=3), ("raised", NoTree))
        for room in range(3, 9):
            for other in range(3, 9):
                told = outcome(rows_for, empty(room=room), empty(room=other))
                self.assertEqual(told, ("told", ()) if room == other else ("raised", NoRoom))


class IsDiskTest(unittest.TestCase):
    def right(self, *things):
        for thing in things:
            self.assertIs(is_disk(thing), True, thing)

    def wrong(self, *things):
        for thing in things:
            self.assertIs(is_disk(thing), False, thing)

    def test_fresh_ones(self):
        draw = Drawn(113)
        for turn in range(24):
            self.right(fresh_disk(random_tree(draw, 3 + turn % 6, 1 + turn % 3, 10 ** 6)))

    def test_disks_as_hands_leave_them(self):
        draw = Drawn(114)
        for turn in range(40):
            logged = Logged(draw, random_tree(draw, 3, 1 + turn % 3, 60), 6, 60)
            for _ in range(10):
                last = draw.randint(0, len(logged.rows))
                cut = draw.choice([0, 0] + [row for row in range(last + 1)])
                self.right(logged.disk(last, cut)[0])

    def test_right_ones(self):
        self.right(DISK)
        for room in range(3, 9):
            self.right((room, 4, ROWS, PAGES))
        for many in range(len(ROWS) + 1):
            self.right((4, 4, ROWS[:many], PAGES[1:2] + PAGES[3:]))
        for many in range(len(PAGES)):
            self.right((4, 4, ROWS, PAGES[:many] + PAGES[many + 1:]))
        self.right((4, 0, (), ()), (4, BIG, (), ()), (4, 10 ** 9 + 5, (), ((0, 0, HEAD),)), (4, 4, ROWS, ()))
        self.right((4, BIG, ((BIG + 1, 1, None, LEAF, False),), ((1, BIG + 1, None), (10 ** 6, 0, LEAF))))

    def test_marks(self):
        for at in range(len(PAGES)):
            for mark in range(0, 11):
                self.right(with_disk_page(at, mark=mark))
            self.wrong(with_disk_page(at, mark=11), with_disk_page(at, mark=-1), with_disk_page(at, mark=BIG))
        # Without rows the cut is the bound, with a group cut off its last row.
        for mark in range(0, 5):
            self.right((4, 4, (), ((1, mark, LEAF),)))
        self.wrong((4, 4, (), ((1, 5, LEAF),)), (4, 0, (), ((1, 1, None),)))
        self.right((4, 4, ROWS[:1], ((1, 5, LEAF),)))
        self.wrong((4, 4, ROWS[:1], ((1, 6, LEAF),)))

    def test_pages_by_themselves(self):
        many = tuple((key, 1) for key in range(50))
        pages = [("leaf", (), 0), ("leaf", many, 10 ** 6), ("node", (), (9,)), ("node", (3, 4), (1, 1, 1)), LEAF, NODE,
                 ("node", tuple(range(99)), tuple(range(1, 101))), ("leaf", ((0, 0), (10 ** 9, 10 ** 9)), 7)]
        for page in pages:
            self.right(with_disk_page(3, page=page), with_row(1, after=page), with_row(3, before=page),
                       (4, 0, (), ((1, 0, page),)), (3, 0, (), ((10 ** 6, 0, page),)))
        wrong = [("leaf", ((2, 1), (1, 1)), 0), ("leaf", ((1, 1), (1, 2)), 0), ("leaf", (), -1), ("leaf", (), 10 ** 6 + 1),
                 ("leaf", ((1, True),), 0), ("leaf", ((-1, 1),), 0), ("leaf", ((1, 10 ** 9 + 1),), 0), ("leaf", [], 0),
                 ("leaf", ()), ("leaf", (), 0, 0), ("node", (), ()), ("node", (1,), (1,)), ("node", (), (1, 2)),
                 ("node", (1, 1), (1, 2, 3)), ("node", (2, 1), (1, 2, 3)), ("node", (1,), (0, 1)), ("node", [1], (1, 2)),
                 ("node", (1,), (1, 10 ** 6 + 1)), ("node", (True,), (1, 2)), ("node", (1,), (1, True)), ("Leaf", (), 0),
                 ["leaf", (), 0], ("leaf", ((1,),), 0), ("head", 1), HEAD, ("leaf", None, 0), (), 0, "leaf"]
        for page in wrong + [thing for thing in ANYTHING if thing is not None and repr(thing) != repr(pages[0])]:
            self.wrong(with_disk_page(3, page=page), with_disk_page(1, page=page), with_row(1, after=page),
                       with_row(3, before=page), (4, 0, (), ((1, 0, page),)))

    def test_the_head(self):
        for root in (1, 2, 10 ** 6):
            self.right(with_disk_page(0, page=("head", root)), with_row(4, after=("head", root)))
        for head in (None, ("head", 0), ("head", -1), ("head", 10 ** 6 + 1), ("head", True), ("head", "1"), ("head", None),
                     ("head",), ("head", 1, 1), ["head", 1], ("Head", 1), ("heads", 1), (1, "head"), 1, LEAF, NODE, "head"):
            self.wrong(with_disk_page(0, page=head), with_row(0, before=head), with_row(4, after=head),
                       (4, 0, (), ((0, 0, head),)))

    def test_each_word_of_rows_broken(self):
        for at, row in enumerate(ROWS):
            for number in (row[0] - 1, row[0] + 1, 0, -row[0], BIG) + NO_WHOLE:
                self.wrong(with_row(at, number=number))
            for page in (-1, 10 ** 6 + 1, BIG) + NO_WHOLE:
                self.wrong(with_row(at, page=page))
            for last in (0, 1, None, "", "True", (), 2, [True]):
                self.wrong(with_row(at, last=last))
            self.wrong(with_row(at, before=row[3]), with_row(at, after=row[2]))
            for thing in (row[:4], row + (True,), list(row), None, (row,), row[0]):
                self.wrong((4, 4, ROWS[:at] + (thing,) + ROWS[at + 1:], ()))
            if at < len(ROWS) - 1:
                self.wrong((4, 4, ROWS[:at] + ROWS[at + 1:], ()), (4, 4, ROWS[:at + 1] + ROWS[at:], ()))
            self.wrong((4, 4, ROWS[:at] + (row[:1] + (None, None) + row[3:],) + ROWS[at + 1:], ()))
        self.right(with_row(3, page=10 ** 6), with_row(5, page=1), with_row(5, last=True))
        self.wrong((4, 4, ROWS[1:], ()), (4, 4, ROWS[::-1], ()), (4, 4, list(ROWS), ()), (4, 4, None, ()))
        self.right((4, 0, ((1, 1, None, LEAF, True),), ()))
        self.wrong((4, 0, ((True, 1, None, LEAF, True),), ()), (4, False, ((1, 1, None, LEAF, True),), ()),
                   (4, 0, ((1, True, None, LEAF, True),), ()), (4, 0, (), ((True, 0, LEAF),)), (4, 0, (), ((1, False, LEAF),)))
        # None is unlike no page alone.
        self.wrong((4, 0, ((1, 1, None, None, True),), ()))

    def test_pages_rise_in_each_group_alone(self):
        # The first group's pages are 0, 2, 3; the last one's 0, 7.
        self.wrong(with_row(1, page=3), with_row(1, page=4), with_row(2, page=2), with_row(2, page=1))
        self.right(with_row(1, page=1), with_row(2, page=10 ** 6), with_row(3, page=1), with_row(3, page=3))
        self.wrong((4, 4, ROWS[:5] + ((10, 0, HEAD, ("head", 9), False),), PAGES))
        self.right((4, 4, ROWS[:4] + ((9, 0, HEAD, ("head", 2), True), (10, 0, HEAD, ("head", 9), False)), PAGES))
        self.wrong(with_row(3, last=False))
        # Without an end between, the first group runs on into the second.
        self.wrong(with_row(2, last=False))

    def test_each_word_of_pages_broken(self):
        for at, row in enumerate(PAGES):
            for number in (-1, 10 ** 6 + 1, BIG) + NO_WHOLE:
                self.wrong(with_disk_page(at, number=number))
            for mark in NO_WHOLE:
                self.wrong(with_disk_page(at, mark=mark))
            for thing in (row[:2], row + (0,), list(row), None, (row,), row[0]):
                self.wrong((4, 4, ROWS, PAGES[:at] + (thing,) + PAGES[at + 1:]))
            self.wrong((4, 4, ROWS, PAGES[:at + 1] + PAGES[at:]))
        self.wrong(with_disk_page(1, number=3), with_disk_page(1, number=4), with_disk_page(3, number=3),
                   with_disk_page(3, number=1), (4, 4, ROWS, PAGES[::-1]), (4, 4, ROWS, list(PAGES)), (4, 4, ROWS, None))
        self.right(with_disk_page(1, number=1), with_disk_page(3, number=4), with_disk_page(3, number=10 ** 6))

    def test_room_and_cut(self):
        for room in (2, 9, 0, -4, BIG) + NO_WHOLE:
            self.wrong((room, 4, ROWS, PAGES), (room, 0, (), ()))
        for cut in (3, 5, 0, -4, -5, BIG) + NO_WHOLE:
            self.wrong((4, cut, ROWS, PAGES))
        for cut in (-1, -BIG) + NO_WHOLE:
            self.wrong((4, cut, (), ()))
        self.wrong(list(DISK), DISK[:3], DISK + ((),), (DISK,), DISK[::-1], (4, ROWS, PAGES))

    def test_of_anything(self):
        self.wrong(*ANYTHING)
        for thing in ANYTHING:
            for at in range(4):
                disk = DISK[:at] + (thing,) + DISK[at + 1:]
                self.assertIs(is_disk(disk), at == 3 and repr(thing) == "()")
            self.wrong((4, 0, (thing,), ()), (4, 0, (), (thing,)), (thing,) * 4, (4, 0, ((thing,) * 5,), ()),
                       (4, 0, (), ((thing,) * 3,)), (4, 0, thing, thing) if repr(thing) != "()" else None)

    def test_what_is_handed_in_stays(self):
        disk = (4, 4, list(ROWS), list(PAGES))
        before = repr(disk)
        self.wrong(disk)
        self.assertEqual(repr(disk), before)


class FreshTest(unittest.TestCase):
    def test_page_for_page(self):
        tree = tree_of(3, 9, {1: (10, 20), 4: (30, 40)}, {9: (1, 4)})
        self.assertEqual(fresh_disk(tree), (3, 0, (), (
            (0, 0, ("head", 9)), (1, 0, ("leaf", ((10, 10), (20, 20)), 4)), (4, 0, ("leaf", ((30, 30), (40, 40)), 0)),
            (9, 0, ("node", (30,), (1, 4))))))
        self.assertEqual(fresh_disk(empty(room=7)), (7, 0, (), ((0, 0, ("head", 1)), (1, 0, ("leaf", (), 0)))))
        draw = Drawn(115)
        for turn in range(24):
            tree = random_tree(draw, 3 + turn % 6, 1 + turn % 3, 10 ** 6)
            self.assertEqual(fresh_disk(tree), (tree[0], 0, (), ((0, 0, ("head", tree[1])), *[
                (number, 0, page) for number, page in tree[2]])))

    def test_no_tree(self):
        for thing in ANYTHING:
            self.assertEqual(outcome(fresh_disk, thing), ("raised", NoTree))
