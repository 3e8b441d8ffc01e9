import unittest

from latchgrove.errors import NoPage, NoRoom, NoTree
from latchgrove.pages import trees
from latchgrove.pages.trees import by_rank, empty, height_of, is_tree, page_at, pairs_of
from tests.helpers import ANYTHING, NO_WHOLE, Drawn, built, numbers_in, random_tree, with_pages

TREE = built(3, ((2, 3), (2, 2, 3)), (50, 8, 3, 9, 4, 1000, 2, 7), range(10, 130, 10))
LEAF = (8, 6, ((6, ("leaf", (), 0)),))


class EmptyTest(unittest.TestCase):
    def test_of_each_room(self):
        self.assertEqual(trees.ROOM, 4)
        self.assertEqual(empty(), (4, 1, ((1, ("leaf", (), 0)),)))
        for room in range(3, 9):
            self.assertEqual(empty(room=room), (room, 1, ((1, ("leaf", (), 0)),)))
            self.assertTrue(is_tree(empty(room=room)))

    def test_refuses_what_is_no_room(self):
        for room in NO_WHOLE + (2, 9, 0, -4, 10 ** 39):
            with self.assertRaises(NoRoom):
                empty(room=room)

    def test_the_room_goes_by_its_name(self):
        with self.assertRaises(TypeError):
            empty(4)


class TreesTest(unittest.TestCase):
    def test_of_an_example(self):
        self.assertEqual(pairs_of(TREE), tuple((key, key % 97) for key in range(10, 130, 10)))
        self.assertEqual(height_of(TREE), 3)
        self.assertEqual(by_rank(TREE), (0, 50, 8, 4, 3, 9, 1000, 2, 7))
        self.assertEqual(page_at(TREE, 50), ("node", (60,), (8, 4)))
        self.assertEqual(page_at(TREE, 9), ("leaf", ((30, 30), (40, 40), (50, 50)), 1000))
        self.assertEqual(page_at(TREE, 7), ("leaf", ((100, 3), (110, 13), (120, 23)), 0))

    def test_of_a_leaf_without_pairs(self):
        self.assertEqual(pairs_of(LEAF), ())
        self.assertEqual(height_of(LEAF), 1)
        self.assertEqual(by_rank(LEAF), (0, 6))
        self.assertEqual(page_at(LEAF, 6), ("leaf", (), 0))

    def test_of_any_trees(self):
        rng = Drawn(3)
        for turn in range(60):
            height = rng.randint(1, 4)
            tree = random_tree(rng, rng.randint(3, 8), height)
            pages = dict(tree[2])
            self.assertEqual(height_of(tree), height)
            pairs = pairs_of(tree)
            self.assertEqual(pairs, tuple(sorted(pair for _, page in tree[2] if page[0] == "leaf"
                                                 for pair in page[1])))
            self.assertIsInstance(pairs, tuple)
            ranks = by_rank(tree)
            self.assertIsInstance(ranks, tuple)
            self.assertEqual(sorted(ranks), [0] + list(numbers_in(tree)))
            # A level is the kids of the one above it, in order.
            self.assertEqual(ranks[1], tree[1])
            kids = [kid for number in ranks[1:] if pages[number][0] == "node" for kid in pages[number][2]]
            self.assertEqual(list(ranks[2:]), kids)
            for number, page in tree[2]:
                self.assertEqual(page_at(tree, number), page)

    def test_of_many_levels(self):
        shape = 2
        for _ in range(7):
            shape = (shape, shape)
        tree = built(3, shape, range(1, 256), range(1000))
        self.assertEqual(height_of(tree), 8)
        self.assertEqual(len(pairs_of(tree)), 256)
        self.assertEqual(by_rank(tree)[:4], (0, 1, 2, 129))

    def test_refuse_what_is_no_tree(self):
        broken = with_pages(TREE, TREE[2][1:])
        for thing in ANYTHING + (broken, list(TREE)):
            for ask in (pairs_of, height_of, by_rank):
                with self.assertRaises(NoTree):
                    ask(thing)
            for number in (50, 0, None):
                with self.assertRaises(NoTree):
                    page_at(thing, number)

    def test_refuse_what_is_no_page(self):
        for number in NO_WHOLE + (0, -1, 1, 51, 10 ** 6, 10 ** 39):
            with self.assertRaises(NoPage):
                page_at(TREE, number)
        with self.assertRaises(NoPage):
            page_at(empty(), True)

    def test_what_is_handed_in_is_as_it_was(self):
        kept = repr(TREE)
        for ask in (pairs_of, height_of, by_rank, is_tree):
            self.assertEqual(ask(TREE), ask(TREE))
        page_at(TREE, 50)
        self.assertEqual(repr(TREE), kept)
        thing = [4, [1], {1: []}]
        for ask in (pairs_of, height_of, by_rank):
            with self.assertRaises(NoTree):
                ask(thing)
        self.assertEqual(thing, [4, [1], {1: []}])
