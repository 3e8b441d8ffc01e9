import unittest

from latchgrove.errors import NoPairs, NoRoom, NoShape, NoTree
from latchgrove.pages.trees import empty, height_of, is_tree, pairs_of
from latchgrove.shapes.counts import many_shapes, shape_at
from latchgrove.shapes.trees import shape_of, tree_by
from tests.helpers import ANYTHING, NO_WHOLE, Drawn, built, pages_in, pairs_in, random_shape, random_tree


def pairs_upto(many, step=3):
    return tuple((key * step, key % 7) for key in range(many))


class ShapeOfTest(unittest.TestCase):
    def test_examples(self):
        self.assertEqual(shape_of(empty()), 0)
        self.assertEqual(shape_of((5, 3, ((3, ("leaf", ((1, 1), (2, 2)), 0)),))), 2)
        tree = built(3, ((2, 3), (2, 2, 3)), (50, 8, 3, 9, 4, 1000, 2, 7), range(12))
        self.assertEqual(shape_of(tree), ((2, 3), (2, 2, 3)))

    def test_any_trees(self):
        rng = Drawn(15)
        for turn in range(60):
            room, height = rng.randint(3, 8), rng.randint(1, 3)
            shape = random_shape(rng, room, height)
            numbers = rng.sample(range(1, 2000), pages_in(shape))
            self.assertEqual(shape_of(built(room, shape, numbers, range(pairs_in(shape)))), shape)

    def test_refusals(self):
        for thing in ANYTHING:
            with self.assertRaises(NoTree):
                shape_of(thing)


class TreeByTest(unittest.TestCase):
    def test_leaves(self):
        self.assertEqual(tree_by(0, ()), empty())
        self.assertEqual(tree_by(2, ((4, 1), (9, 0)), room=8), (8, 1, ((1, ("leaf", ((4, 1), (9, 0)), 0)),)))

    def test_an_example(self):
        pairs = tuple((key, key + 1) for key in range(0, 120, 10))
        rows = [pairs[0:2], pairs[2:5], pairs[5:7], pairs[7:9], pairs[9:12]]
        self.assertEqual(tree_by(((2, 3), (2, 2, 3)), pairs, room=3), (3, 1, (
            (1, ("node", (50,), (2, 5))),
            (2, ("node", (20,), (3, 4))), (3, ("leaf", rows[0], 4)), (4, ("leaf", rows[1], 6)),
            (5, ("node", (70, 90), (6, 7, 8))), (6, ("leaf", rows[2], 7)), (7, ("leaf", rows[3], 8)),
            (8, ("leaf", rows[4], 0)))))

    def test_numbers_and_keys_of_any_shape(self):
        rng = Drawn(16)
        for turn in range(80):
            room, height = rng.randint(3, 8), rng.randint(1, 4)
            shape = random_shape(rng, room, height)
            if pages_in(shape) > 400:
                continue
            keys = sorted(rng.sample(range(10 ** 9 + 1), pairs_in(shape)))
            pairs = tuple((key, key % 97) for key in keys)
            tree = tree_by(shape, pairs, room=room)
            self.assertEqual(tree, built(room, shape, range(1, pages_in(shape) + 1), keys))
            self.assertTrue(is_tree(tree))
            self.assertEqual(shape_of(tree), shape)
            self.assertEqual(height_of(tree), height)
            self.assertEqual(pairs_of(tree), pairs)

    def test_six_levels(self):
        for room in (3, 4):
            shape = 2
            for _ in range(5):
                shape = (shape, shape)
            tree = tree_by(shape, pairs_upto(64), room=room)
            self.assertEqual(height_of(tree), 6)
            self.assertTrue(is_tree(tree))
            self.assertEqual(shape_of(tree), shape)
            self.assertEqual(len(tree[2]), 63)

    def test_more_than_sixty_pairs(self):
        shape = ((8,) * 8,) * 5
        tree = tree_by(shape, pairs_upto(320), room=8)
        self.assertEqual(shape_of(tree), shape)
        self.assertEqual(pairs_of(tree), pairs_upto(320))
        shape = (4,) * 4
        self.assertEqual(shape_of(tree_by((shape,) * 4, pairs_upto(64))), (shape,) * 4)

    def test_all_shapes_of_ten_pairs(self):
        for room in range(3, 9):
            for number in range(many_shapes(10, room=room)):
                shape = shape_at(10, number, room=room)
                self.assertEqual(shape_of(tree_by(shape, pairs_upto(10), room=room)), shape)

    def test_room_left_out_is_four(self):
        self.assertEqual(tree_by((2, 4), pairs_upto(6)), tree_by((2, 4), pairs_upto(6), room=4))
        with self.assertRaises(NoShape):
            tree_by((2, 5), pairs_upto(7))

    def test_a_trees_shape_and_pairs_make_one_like_it(self):
        rng = Drawn(17)
        for turn in range(20):
            tree = random_tree(rng, rng.randint(3, 8), rng.randint(1, 3))
            again = tree_by(shape_of(tree), pairs_of(tree), room=tree[0])
            self.assertEqual(shape_of(again), shape_of(tree))
            self.assertEqual(pairs_of(again), pairs_of(tree))

    def test_refusals(self):
        for room in NO_WHOLE + (2, 9, 10 ** 39, -1):
            for shape, pairs in ((2, pairs_upto(2)), (None, None), (9, ()), ((2, 2), ())):
                with self.assertRaises(NoRoom):
                    tree_by(shape, pairs, room=room)
        no_shapes = ANYTHING + (5, (2,), (2, 5), (1, 2), (2, 2, 2, 2, 2), ((2, 2), 2), [2, 2], (2, True))
        for shape in no_shapes:
            for pairs in ((), pairs_upto(4), None, [1], pairs_upto(2)[::-1]):
                with self.assertRaises(NoShape):
                    tree_by(shape, pairs)
        for pairs in (pairs_upto(3), pairs_upto(5), (), pairs_upto(4)[::-1], pairs_upto(3) + ((6, 1),),
                      pairs_upto(3) + ((5, 1),), list(pairs_upto(4)), pairs_upto(3) + ([9, 1],),
                      pairs_upto(3) + ((9,),), pairs_upto(3) + ((9, 1, 1),), pairs_upto(3) + ((9, True),),
                      pairs_upto(3) + ((9, -1),), pairs_upto(3) + ((9, 10 ** 9 + 1),),
                      pairs_upto(3) + ((10 ** 9 + 1, 9),), ((False, 1),) + pairs_upto(4)[1:], None, 4, "abcd", {}):
            for shape in (4, (2, 2)):
                with self.assertRaises(NoPairs):
                    tree_by(shape, pairs)
        for thing in ANYTHING:
            with self.assertRaises(NoPairs):
                tree_by((2, 2), thing)
        self.assertTrue(is_tree(tree_by((2, 2), pairs_upto(3) + ((10 ** 9, 10 ** 9),))))

    def test_a_huge_shape_in_a_small_thing(self):
        shape = 4
        for _ in range(10):
            shape = (shape,) * 4
        with self.assertRaises(NoPairs):
            tree_by(shape, ())
