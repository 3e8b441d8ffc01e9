import unittest

from latchgrove.deeds.puts import planted, put, safe_for_put
from latchgrove.errors import NoKey, NoPage, NoPairs, NoRoom, NoTree, NoValue
from latchgrove.pages.trees import empty, is_tree, pairs_of
from tests.helpers import ANYTHING, NO_WHOLE, Drawn, built, numbers_in, random_tree
from tests.model import Model

TOP = 10 ** 9
NO_KEYS = NO_WHOLE + (-1, TOP + 1, 10 ** 39, -10 ** 39)
ROOT_LEAF = (3, 5, ((5, ("leaf", ((10, 1), (20, 2), (30, 3)), 0)),))


class LeavesTest(unittest.TestCase):
    def test_into_a_leaf_with_room(self):
        tree = (4, 2, ((2, ("leaf", ((10, 1), (30, 3)), 0)),))
        for key, pairs in ((5, ((5, 9), (10, 1), (30, 3))), (20, ((10, 1), (20, 9), (30, 3))),
                           (40, ((10, 1), (30, 3), (40, 9))), (0, ((0, 9), (10, 1), (30, 3))),
                           (TOP, ((10, 1), (30, 3), (TOP, 9)))):
            self.assertEqual(put(tree, key, 9), ((4, 2, ((2, ("leaf", pairs, 0)),)), None))
        self.assertEqual(put(empty(), 7, 8), ((4, 1, ((1, ("leaf", ((7, 8),), 0)),)), None))

    def test_a_key_that_is_there(self):
        after = (3, 5, ((5, ("leaf", ((10, 1), (20, 9), (30, 3)), 0)),))
        self.assertEqual(put(ROOT_LEAF, 20, 9), (after, 2))
        self.assertEqual(put(ROOT_LEAF, 20, 2), (ROOT_LEAF, 2))
        self.assertEqual(put(after, 20, 2), (ROOT_LEAF, 9))
        zero = (3, 5, ((5, ("leaf", ((10, 0),), 0)),))
        self.assertEqual(put(zero, 10, 0), (zero, 0))

    def test_a_root_leaf_is_parted(self):
        for key, left, right in ((5, ((5, 9), (10, 1)), ((20, 2), (30, 3))),
                                 (25, ((10, 1), (20, 2)), ((25, 9), (30, 3))),
                                 (40, ((10, 1), (20, 2)), ((30, 3), (40, 9)))):
            tree = (3, 2, ((1, ("leaf", right, 0)), (2, ("node", (right[0][0],), (5, 1))), (5, ("leaf", left, 1))))
            self.assertEqual(put(ROOT_LEAF, key, 9), (tree, None))

    def test_the_last_half_goes(self):
        for room, stay, go in ((3, 2, 2), (4, 3, 2), (5, 3, 3), (6, 4, 3), (7, 4, 4), (8, 5, 4)):
            tree = planted(tuple((key, 0) for key in range(room + 1)), room=room)
            pages = dict(tree[2])
            self.assertEqual((len(pages[1][1]), len(pages[2][1])), (stay, go))
            self.assertEqual(pages[3], ("node", (stay,), (1, 2)))
            self.assertEqual(tree[1], 3)

    def test_numbers_and_nexts_in_the_middle(self):
        # Leaves 4, 9, 2 in a row; 9 is parted, and 1 is the least free number, then 3.
        tree = (4, 7, ((2, ("leaf", ((50, 1), (60, 1)), 0)), (4, ("leaf", ((10, 1), (20, 1)), 9)),
                       (7, ("node", (30, 50), (4, 9, 2))),
                       (9, ("leaf", ((30, 1), (32, 1), (34, 1), (36, 1)), 2))))
        self.assertTrue(is_tree(tree))
        after, answer = put(tree, 33, 5)
        self.assertIsNone(answer)
        self.assertEqual(after, (4, 7, (
            (1, ("leaf", ((34, 1), (36, 1)), 2)), (2, ("leaf", ((50, 1), (60, 1)), 0)),
            (4, ("leaf", ((10, 1), (20, 1)), 9)), (7, ("node", (30, 34, 50), (4, 9, 1, 2))),
            (9, ("leaf", ((30, 1), (32, 1), (33, 5)), 1)))))
        again, _ = put(put(after, 31, 1)[0], 35, 1)
        self.assertEqual(again[1], 7)
        last, _ = put(again, 37, 1)
        self.assertEqual(numbers_in(last), (1, 2, 4, 7, 9))
        self.assertEqual(put(last, 38, 1)[0], (4, 6, (
            (1, ("leaf", ((34, 1), (35, 1), (36, 1)), 3)), (2, ("leaf", ((50, 1), (60, 1)), 0)),
            (3, ("leaf", ((37, 1), (38, 1)), 2)), (4, ("leaf", ((10, 1), (20, 1)), 9)),
            (5, ("node", (50,), (3, 2))), (6, ("node", (37,), (7, 5))), (7, ("node", (30, 34), (4, 9, 1))),
            (9, ("leaf", ((30, 1), (31, 1), (32, 1), (33, 5)), 1)))))

    def test_beyond_the_greatest_and_below_the_least(self):
        tree = built(3, (2, 2), (3, 1, 2), (10, 20, 30, 40))
        self.assertEqual(dict(put(tree, 0, 6)[0][2])[1], ("leaf", ((0, 6), (10, 10), (20, 20)), 2))
        self.assertEqual(dict(put(tree, TOP, 6)[0][2])[2], ("leaf", ((30, 30), (40, 40), (TOP, 6)), 0))
        # A key that is a node's goes right of it, whether a pair has it or not.
        tree = (3, 3, ((1, ("leaf", ((10, 1), (20, 1)), 2)), (2, ("leaf", ((30, 1), (40, 1)), 0)),
                       (3, ("node", (25,), (1, 2)))))
        self.assertEqual(dict(put(tree, 25, 6)[0][2])[2], ("leaf", ((25, 6), (30, 1), (40, 1)), 0))
        self.assertEqual(dict(put(tree, 24, 6)[0][2])[1], ("leaf", ((10, 1), (20, 1), (24, 6)), 2))


class NodesTest(unittest.TestCase):
    def test_up_to_a_new_root_of_an_odd_room(self):
        # Room 3, half 2: four kids are parted two and two, the middle one of three keys goes up.
        tree = (3, 8, ((1, ("leaf", ((10, 0), (20, 0)), 3)), (3, ("leaf", ((30, 0), (40, 0), (50, 0)), 6)),
                       (6, ("leaf", ((60, 0), (70, 0)), 0)), (8, ("node", (25, 55), (1, 3, 6)))))
        self.assertTrue(is_tree(tree))
        self.assertEqual(put(tree, 45, 1)[0], (3, 5, (
            (1, ("leaf", ((10, 0), (20, 0)), 3)), (2, ("leaf", ((45, 1), (50, 0)), 6)),
            (3, ("leaf", ((30, 0), (40, 0)), 2)), (4, ("node", (55,), (2, 6))),
            (5, ("node", (45,), (8, 4))), (6, ("leaf", ((60, 0), (70, 0)), 0)), (8, ("node", (25,), (1, 3))))))

    def test_up_to_a_new_root_of_an_even_room(self):
        # Room 4, half 2: of five kids three stay, two go, of four keys the third goes up.
        tree = built(4, (4, 2, 2, 2), (1, 2, 3, 4, 5), range(0, 100, 10))
        self.assertEqual(dict(tree[2])[1], ("node", (40, 60, 80), (2, 3, 4, 5)))
        after, answer = put(tree, 5, 9)
        self.assertIsNone(answer)
        pages = dict(after[2])
        self.assertEqual(after[1], 8)
        self.assertEqual(pages[2], ("leaf", ((0, 0), (5, 9), (10, 10)), 6))
        self.assertEqual(pages[6], ("leaf", ((20, 20), (30, 30)), 3))
        self.assertEqual(pages[1], ("node", (20, 40), (2, 6, 3)))
        self.assertEqual(pages[7], ("node", (80,), (4, 5)))
        self.assertEqual(pages[8], ("node", (60,), (1, 7)))

    def test_a_node_in_the_middle_is_parted(self):
        tree = built(3, ((2, 2), (3, 2, 2), (2, 2)), range(1, 12), range(0, 300, 10))
        # Node 5 has the leaves 6 (40, 50, 60), 7, 8; the root 1 has the nodes 2, 5, 9.
        self.assertEqual(dict(tree[2])[1], ("node", (40, 110), (2, 5, 9)))
        self.assertEqual(dict(tree[2])[5], ("node", (70, 90), (6, 7, 8)))
        after, _ = put(tree, 41, 1)
        pages = dict(after[2])
        # New are leaf 12, then node 13 right of 5, node 14 right of 1, and the root 15.
        self.assertEqual(numbers_in(after), tuple(range(1, 16)))
        self.assertEqual(after[1], 15)
        self.assertEqual(pages[6], ("leaf", ((40, 40), (41, 1)), 12))
        self.assertEqual(pages[12], ("leaf", ((50, 50), (60, 60)), 7))
        self.assertEqual(pages[5], ("node", (50,), (6, 12)))
        self.assertEqual(pages[13], ("node", (90,), (7, 8)))
        self.assertEqual(pages[1], ("node", (40,), (2, 5)))
        self.assertEqual(pages[14], ("node", (110,), (13, 9)))
        self.assertEqual(pages[15], ("node", (70,), (1, 14)))
        for number in (2, 3, 4, 7, 8, 9, 10, 11):
            self.assertEqual(pages[number], dict(tree[2])[number])

    def test_any_trees_page_for_page(self):
        rng = Drawn(9)
        for turn in range(400):
            tree = random_tree(rng, rng.randint(3, 8), rng.randint(1, 4), rng.choice((4000, 10 ** 9)))
            kept = repr(tree)
            known = dict(pairs_of(tree))
            key = rng.choice(sorted(known) + [rng.randint(0, 4000)] * 40)
            value = rng.randint(0, TOP)
            after, answer = put(tree, key, value)
            model = Model(tree)
            self.assertEqual(answer, model.put(key, value))
            self.assertEqual(after, model.tree())
            self.assertTrue(is_tree(after))
            self.assertEqual(answer, known.get(key))
            known[key] = value
            self.assertEqual(pairs_of(after), tuple(sorted(known.items())))
            self.assertEqual(repr(tree), kept)
            self.assertEqual(put(tree, key, value), (after, answer))


class PutRefusalsTest(unittest.TestCase):
    def test_their_order(self):
        for thing in ANYTHING:
            for key, value in ((1, 1), (-1, 1), (None, None)):
                with self.assertRaises(NoTree):
                    put(thing, key, value)
        for key in NO_KEYS:
            for value in (1, -1, None):
                with self.assertRaises(NoKey):
                    put(ROOT_LEAF, key, value)
        for value in NO_KEYS:
            with self.assertRaises(NoValue):
                put(ROOT_LEAF, 10, value)
        self.assertEqual(put(ROOT_LEAF, 10, TOP)[1], 1)
        self.assertEqual(put(ROOT_LEAF, 10, 0)[1], 1)


class SafeTest(unittest.TestCase):
    TREE = built(3, ((2, 3), (2, 2, 3), (2, 2)), range(1, 12), range(0, 320, 10))

    def test_leaves(self):
        # Leaf 3 has a place left; leaf 4 (20, 30, 40) has none.
        for key in (0, 5, 10, 20, 300):
            self.assertIs(safe_for_put(self.TREE, 3, key), True)
        for key in (20, 30, 40):
            self.assertIs(safe_for_put(self.TREE, 4, key), True)
        for key in (19, 21, 25, 41, 0, 300, 50):
            self.assertIs(safe_for_put(self.TREE, 4, key), False)

    def test_nodes(self):
        # Node 2 has two kids, node 5 three, the root 1 three; which key it is does not matter.
        pages = dict(self.TREE[2])
        self.assertEqual([len(pages[number][2]) for number in (1, 2, 5)], [3, 2, 3])
        for key in (0, 5, 20, 30, 50, 60, 70, 310):
            self.assertIs(safe_for_put(self.TREE, 2, key), True)
            self.assertIs(safe_for_put(self.TREE, 5, key), False)
            self.assertIs(safe_for_put(self.TREE, 1, key), False)

    def test_root_leaves(self):
        self.assertIs(safe_for_put(ROOT_LEAF, 5, 20), True)
        self.assertIs(safe_for_put(ROOT_LEAF, 5, 21), False)
        self.assertIs(safe_for_put(empty(), 1, 21), True)

    def test_what_it_is_good_for(self):
        # Where a page on the way is safe, a put leaves all above it alone.
        rng = Drawn(10)
        for turn in range(150):
            tree = random_tree(rng, rng.randint(3, 8), rng.randint(2, 4), 4000)
            model = Model(tree)
            key = rng.randint(0, 4000)
            way, page = [tree[1]], dict(tree[2])[tree[1]]
            while page[0] == "node":
                way.append(page[2][sum(one <= key for one in page[1])])
                page = dict(tree[2])[way[-1]]
            after, _ = put(tree, key, 1)
            safe = [safe_for_put(tree, number, key) for number in way]
            for place in range(1, len(way)):
                alone = dict(after[2])[way[place - 1]] == dict(tree[2])[way[place - 1]]
                self.assertEqual(any(safe[place:]), alone)
            self.assertEqual(model.tree(), tree)

    def test_refusals(self):
        for thing in ANYTHING:
            for number, key in ((3, 1), (0, None), (None, 1)):
                with self.assertRaises(NoTree):
                    safe_for_put(thing, number, key)
        for number in NO_WHOLE + (0, -1, 12, 10 ** 39):
            for key in (0, -1, None):
                with self.assertRaises(NoPage):
                    safe_for_put(self.TREE, number, key)
        for key in NO_KEYS:
            with self.assertRaises(NoKey):
                safe_for_put(self.TREE, 3, key)


class PlantedTest(unittest.TestCase):
    def test_no_pairs(self):
        self.assertEqual(planted(()), empty())
        for room in range(3, 9):
            self.assertEqual(planted((), room=room), empty(room=room))

    def test_one_by_one(self):
        rng = Drawn(11)
        for turn in range(40):
            room = rng.randint(3, 8)
            pairs = tuple((rng.randint(0, 120), rng.randint(0, 9)) for _ in range(rng.randint(0, 150)))
            model = Model(empty(room=room))
            for key, value in pairs:
                model.put(key, value)
            tree = planted(pairs, room=room)
            self.assertEqual(tree, model.tree())
            self.assertTrue(is_tree(tree))
            self.assertEqual(pairs_of(tree), tuple(sorted(dict(pairs).items())))

    def test_a_key_that_comes_again(self):
        self.assertEqual(pairs_of(planted(((5, 1), (3, 2), (5, 3), (3, 4), (5, 0)))), ((3, 4), (5, 0)))

    def test_order_tells(self):
        up = planted(tuple((key, 0) for key in range(5)), room=3)
        down = planted(tuple((key, 0) for key in range(4, -1, -1)), room=3)
        self.assertEqual(up, (3, 3, ((1, ("leaf", ((0, 0), (1, 0)), 2)),
                                     (2, ("leaf", ((2, 0), (3, 0), (4, 0)), 0)), (3, ("node", (2,), (1, 2))))))
        self.assertEqual(down, (3, 3, ((1, ("leaf", ((0, 0), (1, 0), (2, 0)), 2)),
                                       (2, ("leaf", ((3, 0), (4, 0)), 0)), (3, ("node", (3,), (1, 2))))))

    def test_room_left_out_is_four(self):
        pairs = tuple((key * 7 % 50, key) for key in range(50))
        self.assertEqual(planted(pairs), planted(pairs, room=4))
        self.assertEqual(planted(pairs)[0], 4)

    def test_four_hundred_pairs(self):
        for room in (3, 8):
            tree = planted(tuple((key * 37 % 401, key) for key in range(400)), room=room)
            self.assertTrue(is_tree(tree))
            self.assertEqual(len(pairs_of(tree)), 400)

    def test_refusals(self):
        no_pairs = [thing for thing in ANYTHING if thing != ()]
        no_pairs += [((1, 1), thing) for thing in ANYTHING if thing != (1, 2)]
        no_pairs += [((1, thing),) for thing in NO_KEYS] + [((thing, 1),) for thing in NO_KEYS]
        no_pairs += [[(1, 1)], ([1, 1],), ((1, 1, 1),), ((1,),), {1: 1}]
        for thing in no_pairs:
            with self.assertRaises(NoPairs):
                planted(thing)
        for room in NO_WHOLE + (2, 9, 10 ** 39):
            for pairs in ((), ((1, 1),), None, [1]):
                with self.assertRaises(NoRoom):
                    planted(pairs, room=room)
        with self.assertRaises(TypeError):
            planted((), 4)
