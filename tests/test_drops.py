import unittest

from latchgrove.deeds.drops import drop, mate_of, safe_for_drop
from latchgrove.errors import NoKey, NoPage, NoTree
from latchgrove.pages.trees import empty, is_tree, pairs_of
from tests.helpers import ANYTHING, NO_WHOLE, Drawn, built, numbers_in, random_tree
from tests.model import Model

TOP = 10 ** 9
NO_KEYS = NO_WHOLE + (-1, TOP + 1, 10 ** 39, -10 ** 39)


def of_leaves(room, keys, *leaves):
    """A root 9 above leaves 1, 2 ..; each pair's value is its key."""
    rows = []
    for number, mine in enumerate(leaves, 1):
        right = number + 1 if number < len(leaves) else 0
        rows.append((number, ("leaf", tuple((key, key) for key in mine), right)))
    tree = (room, 9, tuple(rows) + ((9, ("node", keys, tuple(range(1, len(leaves) + 1)))),))
    assert is_tree(tree), tree
    return tree


class LeavesTest(unittest.TestCase):
    def test_of_a_root_leaf(self):
        tree = (3, 5, ((5, ("leaf", ((10, 1), (20, 2)), 0)),))
        after, answer = drop(tree, 10)
        self.assertEqual((after, answer), ((3, 5, ((5, ("leaf", ((20, 2),), 0)),)), 1))
        self.assertEqual(drop(after, 20), ((3, 5, ((5, ("leaf", (), 0)),)), 2))

    def test_a_key_that_is_not_there(self):
        tree = of_leaves(3, (15, 40), (0, 10), (20, 30), (40, 50))
        for key in (5, 15, 16, 39, 41, TOP):
            self.assertEqual(drop(tree, key), (tree, None))
        self.assertEqual(drop(empty(), 0), (empty(), None))

    def test_an_answer_of_0(self):
        self.assertEqual(drop((4, 1, ((1, ("leaf", ((5, 0),), 0)),)), 5), (empty(), 0))

    def test_a_leaf_that_keeps_enough(self):
        tree = of_leaves(4, (20, 50), (0, 10), (20, 30, 40), (50, 60))
        self.assertEqual(drop(tree, 20), (of_leaves(4, (20, 50), (0, 10), (30, 40), (50, 60)), 20))
        self.assertEqual(drop(tree, 40), (of_leaves(4, (20, 50), (0, 10), (20, 30), (50, 60)), 40))

    def test_lent_from_the_left(self):
        tree = of_leaves(4, (30, 50), (0, 10, 20), (30, 40), (50, 60, 70))
        self.assertEqual(drop(tree, 40), (of_leaves(4, (20, 50), (0, 10), (20, 30), (50, 60, 70)), 40))
        self.assertEqual(drop(tree, 30), (of_leaves(4, (20, 50), (0, 10), (20, 40), (50, 60, 70)), 30))
        # The left one goes ahead, even where the right one has more.
        tree = of_leaves(3, (25, 50), (0, 10, 20), (30, 40), (50, 60, 70))
        self.assertEqual(drop(tree, 40)[0], of_leaves(3, (20, 50), (0, 10), (20, 30), (50, 60, 70)))
        # Put together with a poor left one, even where the right one could lend.
        tree = of_leaves(3, (25, 50), (0, 10), (30, 40), (50, 60, 70))
        self.assertEqual(dict(drop(tree, 40)[0][2])[1], ("leaf", ((0, 0), (10, 10), (30, 30)), 3))

    def test_lent_from_the_right(self):
        tree = of_leaves(4, (15, 50), (0, 10), (20, 30, 40), (50, 60))
        self.assertEqual(drop(tree, 0), (of_leaves(4, (30, 50), (10, 20), (30, 40), (50, 60)), 0))
        self.assertEqual(drop(tree, 10), (of_leaves(4, (30, 50), (0, 20), (30, 40), (50, 60)), 10))

    def test_put_together_with_the_left(self):
        tree = of_leaves(4, (15, 45, 65), (0, 10), (20, 30), (50, 60), (70, 80))
        after, answer = drop(tree, 30)
        self.assertEqual(answer, 30)
        self.assertEqual(after, (4, 9, ((1, ("leaf", ((0, 0), (10, 10), (20, 20)), 3)),
                                        (3, ("leaf", ((50, 50), (60, 60)), 4)), (4, ("leaf", ((70, 70), (80, 80)), 0)),
                                        (9, ("node", (45, 65), (1, 3, 4))))))
        after, _ = drop(tree, 80)
        self.assertEqual(after, (4, 9, ((1, ("leaf", ((0, 0), (10, 10)), 2)), (2, ("leaf", ((20, 20), (30, 30)), 3)),
                                        (3, ("leaf", ((50, 50), (60, 60), (70, 70)), 0)),
                                        (9, ("node", (15, 45), (1, 2, 3))))))

    def test_put_together_with_the_right(self):
        tree = of_leaves(4, (15, 45), (0, 10), (20, 30), (50, 60))
        self.assertEqual(drop(tree, 0), ((4, 9, ((1, ("leaf", ((10, 10), (20, 20), (30, 30)), 3)),
                                                 (3, ("leaf", ((50, 50), (60, 60)), 0)),
                                                 (9, ("node", (45,), (1, 3))))), 0))

    def test_up_to_a_root_that_is_gone(self):
        tree = of_leaves(4, (15,), (0, 10), (20, 30))
        self.assertEqual(drop(tree, 30), ((4, 1, ((1, ("leaf", ((0, 0), (10, 10), (20, 20)), 0)),)), 30))
        self.assertEqual(drop(tree, 0), ((4, 1, ((1, ("leaf", ((10, 10), (20, 20), (30, 30)), 0)),)), 0))

    def test_a_half_of_more(self):
        for room, half in ((5, 3), (6, 3), (7, 4), (8, 4)):
            left, right = tuple(range(half)), tuple(range(50, 51 + half))
            tree = of_leaves(room, (40,), left, right)
            after, _ = drop(tree, 0)
            self.assertEqual(after, of_leaves(room, (51,), left[1:] + (50,), right[1:]))
            after, _ = drop(after, 1)
            self.assertEqual(numbers_in(after), (1,))
            self.assertEqual(len(pairs_of(after)), 2 * half - 1)

    def test_keys_in_nodes_stay(self):
        # The first pair of a leaf goes, its key in the root stays.
        tree = of_leaves(4, (20, 50), (0, 10), (20, 30, 40), (50, 60, 70))
        self.assertEqual(dict(drop(tree, 20)[0][2])[9], ("node", (20, 50), (1, 2, 3)))
        self.assertEqual(dict(drop(tree, 50)[0][2])[9], ("node", (20, 50), (1, 2, 3)))


class NodesTest(unittest.TestCase):
    def test_lent_between_nodes_from_the_left(self):
        # Nodes 2 (three kids) and 6 (two) below root 1, room 3.
        tree = built(3, ((2, 2, 2), (2, 2)), range(1, 9), range(0, 100, 10))
        self.assertEqual(dict(tree[2])[1], ("node", (60,), (2, 6)))
        self.assertEqual(dict(tree[2])[2], ("node", (20, 40), (3, 4, 5)))
        tree = (3, 1, tuple((number, page if number != 1 else ("node", (55,), (2, 6))) for number, page in tree[2]))
        after, answer = drop(tree, 90)
        self.assertEqual(answer, 90)
        # The kid 5 is lent: 55 goes down beside it, 40, which stood beside it, goes up.
        self.assertEqual(after, (3, 1, (
            (1, ("node", (40,), (2, 6))), (2, ("node", (20,), (3, 4))), (3, ("leaf", ((0, 0), (10, 10)), 4)),
            (4, ("leaf", ((20, 20), (30, 30)), 5)), (5, ("leaf", ((40, 40), (50, 50)), 7)),
            (6, ("node", (55,), (5, 7))), (7, ("leaf", ((60, 60), (70, 70), (80, 80)), 0)))))

    def test_lent_between_nodes_from_the_right(self):
        tree = built(3, ((2, 2), (2, 2, 2)), range(1, 9), range(0, 100, 10))
        self.assertEqual(dict(tree[2])[5], ("node", (60, 80), (6, 7, 8)))
        tree = (3, 1, tuple((number, page if number != 1 else ("node", (35,), (2, 5))) for number, page in tree[2]))
        after, answer = drop(tree, 0)
        self.assertEqual(answer, 0)
        self.assertEqual(after, (3, 1, (
            (1, ("node", (60,), (2, 5))), (2, ("node", (35,), (3, 6))),
            (3, ("leaf", ((10, 10), (20, 20), (30, 30)), 6)), (5, ("node", (80,), (7, 8))),
            (6, ("leaf", ((40, 40), (50, 50)), 7)), (7, ("leaf", ((60, 60), (70, 70)), 8)),
            (8, ("leaf", ((80, 80), (90, 90)), 0)))))

    def test_nodes_put_together_up_to_a_root_that_is_gone(self):
        tree = built(3, ((2, 2), (2, 2)), (4, 2, 3, 9, 6, 7, 8), range(0, 80, 10))
        tree = (3, 4, tuple((number, page if number != 4 else ("node", (35,), (2, 6))) for number, page in tree[2]))
        for key, first, nexts in ((70, ((0, 0), (10, 10)), None), (0, ((10, 10), (20, 20), (30, 30)), None)):
            after, answer = drop(tree, key)
            self.assertEqual(answer, key)
            self.assertEqual(after[1], 2)
            self.assertEqual(dict(after[2])[3][1], first)
        self.assertEqual(drop(tree, 70)[0], (3, 2, (
            (2, ("node", (20, 35), (3, 9, 7))), (3, ("leaf", ((0, 0), (10, 10)), 9)),
            (7, ("leaf", ((40, 40), (50, 50), (60, 60)), 0)), (9, ("leaf", ((20, 20), (30, 30)), 7)))))
        self.assertEqual(drop(tree, 0)[0], (3, 2, (
            (2, ("node", (35, 60), (3, 7, 8))), (3, ("leaf", ((10, 10), (20, 20), (30, 30)), 7)),
            (7, ("leaf", ((40, 40), (50, 50)), 8)), (8, ("leaf", ((60, 60), (70, 70)), 0)))))

    def test_nodes_in_the_middle_put_together_with_the_left(self):
        tree = built(3, ((2, 2), (2, 2), (2, 2)), range(1, 11), range(0, 120, 10))
        self.assertEqual(dict(tree[2])[1], ("node", (40, 80), (2, 5, 8)))
        after, _ = drop(tree, 50)
        pages = dict(after[2])
        self.assertEqual(pages[1], ("node", (80,), (2, 8)))
        self.assertEqual(pages[2], ("node", (20, 40), (3, 4, 6)))
        self.assertEqual(pages[6], ("leaf", ((40, 40), (60, 60), (70, 70)), 9))
        self.assertEqual(numbers_in(after), (1, 2, 3, 4, 6, 8, 9, 10))

    def test_any_trees_page_for_page(self):
        rng = Drawn(12)
        for turn in range(400):
            tree = random_tree(rng, rng.randint(3, 8), rng.randint(1, 4), rng.choice((4000, 10 ** 9)))
            kept = repr(tree)
            known = dict(pairs_of(tree))
            key = rng.choice(sorted(known) + [rng.randint(0, 4000)] * 5)
            after, answer = drop(tree, key)
            model = Model(tree)
            self.assertEqual(answer, model.drop(key))
            self.assertEqual(after, model.tree())
            self.assertTrue(is_tree(after))
            self.assertEqual(answer, known.pop(key, None))
            self.assertEqual(pairs_of(after), tuple(sorted(known.items())))
            self.assertEqual(repr(tree), kept)
            self.assertEqual(drop(tree, key), (after, answer))

    def test_trees_of_poor_pages(self):
        # Every page has as few parts as it may: each drop goes all the way up.
        for room, half in ((3, 2), (4, 2), (5, 3), (6, 3), (7, 4), (8, 4)):
            shape = (((half,) * half,) * 2)
            many = 2 * half * half
            tree = built(room, shape, range(1, 2 * half + 4), range(many))
            for key in range(many):
                after, _ = drop(tree, key)
                model = Model(tree)
                model.drop(key)
                self.assertEqual(after, model.tree())
                self.assertEqual(after[1], 2)
                self.assertEqual(len(after[2]), len(tree[2]) - 3)


class DropRefusalsTest(unittest.TestCase):
    def test_their_order(self):
        for thing in ANYTHING:
            for key in (1, -1, None):
                with self.assertRaises(NoTree):
                    drop(thing, key)
        for key in NO_KEYS:
            with self.assertRaises(NoKey):
                drop(empty(), key)


class SafeTest(unittest.TestCase):
    # Root 1 with three kids: node 2 (two leaves), node 5 (three leaves), node 9 (two leaves).
    TREE = built(3, ((2, 3), (2, 2, 3), (2, 2)), range(1, 12), range(0, 320, 10))

    def test_leaves(self):
        for key in (0, 10):
            self.assertIs(safe_for_drop(self.TREE, 3, key), False)
        for key in (5, 11, 20, 300):
            self.assertIs(safe_for_drop(self.TREE, 3, key), True)
        for key in (0, 20, 30, 40, 300):
            self.assertIs(safe_for_drop(self.TREE, 4, key), True)

    def test_nodes(self):
        for key in (0, 5, 50, 310):
            self.assertIs(safe_for_drop(self.TREE, 2, key), False)
            self.assertIs(safe_for_drop(self.TREE, 5, key), True)
            self.assertIs(safe_for_drop(self.TREE, 9, key), False)
            self.assertIs(safe_for_drop(self.TREE, 1, key), True)

    def test_roots(self):
        for pairs in ((), ((10, 1),), ((10, 1), (20, 2))):
            tree = (3, 5, ((5, ("leaf", pairs, 0)),))
            for key in (10, 20, 30):
                self.assertIs(safe_for_drop(tree, 5, key), True)
        # Of room 8 a half is 4, but a root is safe from three kids on.
        for room, half in ((3, 2), (4, 2), (5, 3), (6, 3), (7, 4), (8, 4)):
            for kids in range(2, room + 1):
                tree = built(room, (half,) * kids, range(1, kids + 2), range(100))
                for key in (0, 1, 99):
                    self.assertIs(safe_for_drop(tree, 1, key), kids > 2)

    def test_more_than_half(self):
        for room, half in ((3, 2), (4, 2), (5, 3), (6, 3), (7, 4), (8, 4)):
            for many in range(half, room + 1):
                tree = built(room, (many, many), (1, 2, 3), range(100))
                self.assertIs(safe_for_drop(tree, 2, 0), many > half)
                tree = built(room, ((half,) * many, (half,) * half), range(1, 20), range(100))
                self.assertIs(safe_for_drop(tree, 2, 0), many > half)

    def test_what_it_is_good_for(self):
        # Where a page on the way is safe, a drop leaves all above it alone.
        rng = Drawn(13)
        for turn in range(150):
            tree = random_tree(rng, rng.randint(3, 8), rng.randint(2, 4), 4000)
            pages = dict(tree[2])
            key = rng.choice([pair[0] for pair in pairs_of(tree)] + [rng.randint(0, 4000)] * 9)
            way = [tree[1]]
            while pages[way[-1]][0] == "node":
                _, keys, kids = pages[way[-1]]
                way.append(kids[sum(one <= key for one in keys)])
            after = dict(drop(tree, key)[0][2])
            for place in range(1, len(way)):
                if any(safe_for_drop(tree, number, key) for number in way[place:]):
                    self.assertEqual(after[way[place - 1]], pages[way[place - 1]])
            if not any(safe_for_drop(tree, number, key) for number in way):
                # Then only a mate that can lend keeps the root from being gone.
                mates = [mate_of(tree, number) for number in way[1:]]
                poor = all(len(pages[mate][1 if pages[mate][0] == "leaf" else 2]) == (tree[0] + 1) // 2
                           for mate in mates)
                self.assertEqual(tree[1] not in after, poor)

    def test_refusals(self):
        for thing in ANYTHING:
            for number, key in ((3, 1), (0, None), (None, 1)):
                with self.assertRaises(NoTree):
                    safe_for_drop(thing, number, key)
        for number in NO_WHOLE + (0, -1, 12, 10 ** 39):
            for key in (0, -1, None):
                with self.assertRaises(NoPage):
                    safe_for_drop(self.TREE, number, key)
        for key in NO_KEYS:
            for number in (1, 2, 3):
                with self.assertRaises(NoKey):
                    safe_for_drop(self.TREE, number, key)


class MatesTest(unittest.TestCase):
    def test_each_page(self):
        tree = built(3, ((2, 3), (2, 2, 3), (2, 2)), range(1, 12), range(0, 320, 10))
        mates = {2: 5, 5: 2, 9: 5, 3: 4, 4: 3, 6: 7, 7: 6, 8: 7, 10: 11, 11: 10}
        for number, mate in mates.items():
            self.assertEqual(mate_of(tree, number), mate)

    def test_any_trees(self):
        rng = Drawn(14)
        for turn in range(20):
            tree = random_tree(rng, rng.randint(3, 8), rng.randint(2, 4))
            for _, page in tree[2]:
                if page[0] == "node":
                    kids = page[2]
                    self.assertEqual(mate_of(tree, kids[0]), kids[1])
                    self.assertEqual(mate_of(tree, kids[-1]), kids[-2])
                    for left, right in zip(kids[:3], kids[1:3]):
                        self.assertEqual(mate_of(tree, right), left)

    def test_refusals(self):
        tree = built(3, (2, 2), (5, 1, 2), range(4))
        self.assertEqual((mate_of(tree, 1), mate_of(tree, 2)), (2, 1))
        for number in NO_WHOLE + (0, 5, 3, -1, 10 ** 39):
            with self.assertRaises(NoPage):
                mate_of(tree, number)
        with self.assertRaises(NoPage):
            mate_of(empty(), 1)
        for thing in ANYTHING:
            for number in (1, 0, None):
                with self.assertRaises(NoTree):
                    mate_of(thing, number)
