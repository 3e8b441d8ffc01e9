import unittest

from latchgrove.errors import NoKey, NoStretch, NoTree
from latchgrove.pages.looks import stretch, value_at, way_to
from latchgrove.pages.trees import empty, pairs_of
from tests.helpers import ANYTHING, NO_WHOLE, Drawn, random_tree

TOP = 10 ** 9
# Node keys 25, 50 are no pairs' keys; 70 is one.
TREE = (3, 9, (
    (1, ("leaf", ((30, 3), (40, 4)), 4)),
    (2, ("node", (25,), (8, 1))),
    (3, ("leaf", ((70, 7), (80, 8), (TOP, 9)), 0)),
    (4, ("leaf", ((52, 5), (60, 6)), 3)),
    (6, ("node", (70,), (4, 3))),
    (8, ("leaf", ((0, 1), (20, 2)), 1)),
    (9, ("node", (50,), (2, 6))),
))
PAIRS = ((0, 1), (20, 2), (30, 3), (40, 4), (52, 5), (60, 6), (70, 7), (80, 8), (TOP, 9))
NO_KEYS = NO_WHOLE + (-1, TOP + 1, 10 ** 39, -10 ** 39)


class WaysTest(unittest.TestCase):
    def test_ways(self):
        for key, way in ((0, (9, 2, 8)), (20, (9, 2, 8)), (24, (9, 2, 8)), (25, (9, 2, 1)), (26, (9, 2, 1)),
                         (49, (9, 2, 1)), (50, (9, 6, 4)), (51, (9, 6, 4)), (69, (9, 6, 4)), (70, (9, 6, 3)),
                         (71, (9, 6, 3)), (TOP, (9, 6, 3))):
            self.assertEqual(way_to(TREE, key), way)
        self.assertEqual(way_to(empty(), 5), (1,))

    def test_values(self):
        for key, value in PAIRS:
            self.assertEqual(value_at(TREE, key), value)
        for key in (1, 19, 21, 25, 29, 50, 51, 53, 69, 71, 100, TOP - 1):
            self.assertIsNone(value_at(TREE, key))
        self.assertIsNone(value_at(empty(), 0))

    def test_a_value_of_0_is_one(self):
        self.assertEqual(value_at((4, 1, ((1, ("leaf", ((5, 0),), 0)),)), 5), 0)

    def test_any_trees(self):
        rng = Drawn(7)
        for turn in range(40):
            tree = random_tree(rng, rng.randint(3, 8), rng.randint(1, 4), 4000)
            pages, pairs = dict(tree[2]), dict(pairs_of(tree))
            asked = [0, 4000, TOP] + [rng.randint(0, 4001) for _ in range(30)] + list(pairs)
            asked += [key for page in pages.values() if page[0] == "node" for key in page[1]]
            for key in rng.sample(asked, min(60, len(asked))):
                way = way_to(tree, key)
                self.assertEqual(value_at(tree, key), pairs.get(key))
                self.assertIsInstance(way, tuple)
                self.assertEqual(way[0], tree[1])
                for number, kid in zip(way, way[1:]):
                    _, keys, kids = pages[number]
                    self.assertEqual(kid, kids[sum(one <= key for one in keys)])
                self.assertEqual(pages[way[-1]][0], "leaf")
                self.assertEqual(key in pairs, key in dict(pages[way[-1]][1]))

    def test_refusals(self):
        for ask in (way_to, value_at):
            for thing in ANYTHING:
                for key in (5, -1, None):
                    with self.assertRaises(NoTree):
                        ask(thing, key)
            for key in NO_KEYS:
                with self.assertRaises(NoKey):
                    ask(TREE, key)


class StretchesTest(unittest.TestCase):
    def test_stretches(self):
        for low, high, places in ((0, 1, (0, 1)), (0, 20, (0, 1)), (0, 21, (0, 2)), (1, 20, (1, 1)), (1, 2, (1, 1)),
                                  (20, 21, (1, 2)), (20, 30, (1, 2)), (21, 31, (2, 3)), (0, TOP, (0, 8)),
                                  (0, TOP + 1, (0, 9)), (TOP, TOP + 1, (8, 9)), (25, 70, (2, 6)), (41, 52, (4, 4)),
                                  (81, TOP, (8, 8)), (52, 80, (4, 7))):
            self.assertEqual(stretch(TREE, low, high), PAIRS[slice(*places)], (low, high))
        self.assertEqual(stretch(empty(), 0, TOP + 1), ())

    def test_any_trees(self):
        rng = Drawn(8)
        for turn in range(40):
            tree = random_tree(rng, rng.randint(3, 8), rng.randint(1, 4), 4000)
            pairs = pairs_of(tree)
            for _ in range(20):
                low = rng.choice([pair[0] for pair in pairs] + [rng.randint(0, 4000)])
                high = rng.choice([pair[0] for pair in pairs if pair[0] > low] + [rng.randint(low + 1, 4100)])
                self.assertEqual(stretch(tree, low, high), tuple(p for p in pairs if low <= p[0] < high))

    def test_refusals(self):
        for thing in ANYTHING:
            for low, high in ((0, 5), (5, 5), (None, 5)):
                with self.assertRaises(NoTree):
                    stretch(thing, low, high)
        for low in NO_KEYS:
            for high in (5, TOP + 1, None, 10 ** 39 + 1):
                with self.assertRaises(NoStretch):
                    stretch(TREE, low, high)
        for high in NO_WHOLE + (-1, 0, 4, 5, TOP + 2, 10 ** 39):
            with self.assertRaises(NoStretch):
                stretch(TREE, 5, high)
        with self.assertRaises(NoStretch):
            stretch(TREE, 0, True)
        with self.assertRaises(NoStretch):
            stretch(TREE, TOP, TOP)

    def test_what_is_handed_in_is_as_it_was(self):
        kept = repr(TREE)
        stretch(TREE, 0, 50)
        way_to(TREE, 50)
        value_at(TREE, 50)
        self.assertEqual(repr(TREE), kept)
