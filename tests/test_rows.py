import unittest

from latchgrove.deeds.drops import drop
from latchgrove.deeds.puts import planted, put
from latchgrove.deeds.rows import done, is_deed, plainly, unlike
from latchgrove.errors import NoDeed, NoPairs, NoRoom, NoTree
from latchgrove.pages.looks import stretch, value_at
from latchgrove.pages.trees import empty, is_tree, pairs_of
from tests.helpers import ANYTHING, NO_WHOLE, Drawn, random_deed, random_tree
from tests.model import Model, PlainMap

TOP = 10 ** 9
GOOD = (
    ("find", 0), ("find", TOP), ("drop", 0), ("drop", TOP), ("put", 0, 0), ("put", TOP, TOP), ("put", 0, TOP),
    ("span", 0, 1), ("span", TOP, TOP + 1), ("span", 0, TOP + 1), ("walk", 0, 1), ("walk", TOP, TOP + 1),
    ("walk", 0, TOP + 1), ("span", 3, 9), ("walk", 3, 9),
)
NO_KEYS = NO_WHOLE + (-1, TOP + 1, 10 ** 39, -10 ** 39)


def broken_deeds():
    for deed in GOOD:
        for word in ("Find", "found", "", "puts", b"find", None, 0, True, ("find",), "finds", "leaf"):
            yield (word,) + deed[1:]
        yield list(deed)
        yield deed + (1,)
        yield deed[:-1]
        yield deed[1:]
        yield (deed,)
        for at in range(1, len(deed)):
            yield deed[:at] + (True,) + deed[at + 1:]
            yield deed[:at] + (False,) + deed[at + 1:]
    for key in NO_KEYS:
        yield ("find", key)
        yield ("drop", key)
        yield ("put", key, 0)
        yield ("put", 0, key)
        yield ("span", key, TOP + 1)
        yield ("walk", key, TOP + 1)
    for word in ("span", "walk"):
        for high in NO_WHOLE + (5, 4, 0, -1, TOP + 2, 10 ** 39, -10 ** 39):
            yield (word, 5, high)
        yield (word, TOP, TOP)
        yield (word, TOP + 1, TOP + 1)
        yield (word, TOP + 1, TOP + 2)
        yield (word, 5, 5)
        yield (word, 5)
        yield (word, 5, 6, 7)
    yield ("find", 1, 2)
    yield ("drop", 1, 2)
    yield ("put", 1)
    yield ("put", 1, 2, 3)


class IsDeedTest(unittest.TestCase):
    def test_each_kind_at_its_bounds(self):
        for deed in GOOD:
            self.assertIs(is_deed(deed), True, deed)

    def test_each_word_broken(self):
        for thing in broken_deeds():
            self.assertIs(is_deed(thing), False, thing)

    def test_of_anything(self):
        for thing in ANYTHING:
            self.assertIs(is_deed(thing), False)
            for word in ("find", "put", "drop", "span", "walk"):
                self.assertIs(is_deed((word, thing)), word in ("find", "drop") and type(thing) is int and 0 <= thing <= TOP)
                for other in ANYTHING:
                    self.assertIs(is_deed((word, thing, other)), False)
                    self.assertIs(is_deed((thing, other)), False)


class DoneTest(unittest.TestCase):
    def test_none_and_one(self):
        tree = planted(((10, 1), (20, 2), (30, 3)))
        self.assertEqual(done(tree, ()), (tree, ()))
        self.assertEqual(done(tree, (("find", 20),)), (tree, (2,)))
        self.assertEqual(done(tree, (("find", 21),)), (tree, (None,)))
        self.assertEqual(done(tree, (("span", 10, 30),)), (tree, (((10, 1), (20, 2)),)))
        self.assertEqual(done(tree, (("walk", 11, 31),)), (tree, (((20, 2), (30, 3)),)))
        self.assertEqual(done(tree, (("span", 31, 40),)), (tree, ((),)))
        self.assertEqual(done(tree, (("put", 20, 7),)), (put(tree, 20, 7)[0], (2,)))
        self.assertEqual(done(tree, (("put", 25, 7),)), (put(tree, 25, 7)[0], (None,)))
        self.assertEqual(done(tree, (("drop", 10),)), (drop(tree, 10)[0], (1,)))
        self.assertEqual(done(tree, (("drop", 11),)), (tree, (None,)))

    def test_many_that_grow_and_shrink_the_tree(self):
        deeds = tuple(("put", key, key + 1) for key in range(10, 70, 10)) + (
            ("find", 30), ("span", 20, 51), ("drop", 10), ("walk", 0, 31), ("put", 20, 9), ("drop", 20),
            ("drop", 30), ("find", 30), ("drop", 40), ("drop", 50), ("span", 0, TOP + 1))
        tree, answers = done(empty(), deeds)
        self.assertEqual(answers, (None,) * 6 + (
            31, ((20, 21), (30, 31), (40, 41), (50, 51)), 11, ((20, 21), (30, 31)), 21, 9,
            31, None, 41, 51, ((60, 61),)))
        self.assertEqual(tree, (4, 1, ((1, ("leaf", ((60, 61),), 0)),)))
        grown = done(empty(), deeds[:5])[0]
        self.assertEqual(grown, (4, 3, ((1, ("leaf", ((10, 11), (20, 21), (30, 31)), 2)),
                                        (2, ("leaf", ((40, 41), (50, 51)), 0)), (3, ("node", (40,), (1, 2))))))

    def test_against_the_deeds_one_by_one(self):
        rng = Drawn(31)
        for room in range(3, 9):
            for height in (1, 2, 3):
                tree = random_tree(rng, room, height, greatest=600)
                deeds = tuple(random_deed(rng, 600) for _ in range(60))
                model, plain, answers, now = Model(tree), PlainMap(pairs_of(tree)), [], tree
                for deed in deeds:
                    answers.append(plain.do(deed))
                    if deed[0] == "put":
                        self.assertEqual(model.put(*deed[1:]), answers[-1])
                        now = put(now, *deed[1:])[0]
                    elif deed[0] == "drop":
                        self.assertEqual(model.drop(deed[1]), answers[-1])
                        now = drop(now, deed[1])[0]
                    elif deed[0] == "find":
                        self.assertEqual(value_at(now, deed[1]), answers[-1])
                    else:
                        self.assertEqual(stretch(now, *deed[1:]), answers[-1])
                self.assertEqual(now, model.tree())
                self.assertEqual(done(tree, deeds), (now, tuple(answers)))
                self.assertEqual(plainly(pairs_of(tree), deeds), (plain.pairs(), tuple(answers)))
                self.assertEqual(pairs_of(now), plain.pairs())

    def test_done_of_a_row_is_done_of_its_first_and_then_of_the_rest(self):
        rng = Drawn(32)
        for turn in range(30):
            tree = random_tree(rng, rng.randint(3, 8), rng.randint(1, 3), greatest=600)
            deeds = tuple(random_deed(rng, 600) for _ in range(20))
            cut = rng.randint(0, 20)
            between, first = done(tree, deeds[:cut])
            behind, rest = done(between, deeds[cut:])
            self.assertEqual(done(tree, deeds), (behind, first + rest))

    def test_400_deeds(self):
        deeds = tuple(("put", key * 7919 % 401, key) for key in range(400))
        tree, answers = done(empty(room=3), deeds)
        self.assertEqual(answers, (None,) * 400)
        self.assertTrue(is_tree(tree))
        self.assertEqual(done(tree, tuple(("drop", key) for key in range(401)))[0][2][0][1], ("leaf", (), 0))

    def test_refusals(self):
        tree = planted(((10, 1), (20, 2)))
        for thing in ANYTHING:
            for deeds in (thing, (), (("find", 5),)):
                with self.assertRaises(NoTree):
                    done(thing, deeds)
        for thing in ANYTHING:
            if thing != () or type(thing) is not tuple:
                with self.assertRaises(NoDeed):
                    done(tree, thing)
            with self.assertRaises(NoDeed):
                done(tree, (("find", 5), thing))
        for thing in broken_deeds():
            with self.assertRaises(NoDeed):
                done(tree, (thing,))
            with self.assertRaises(NoDeed):
                done(tree, (("put", 1, 1), thing, ("put", 2, 2)))
        for thing in ([], [("find", 5)], ("find", 5), {}, (("find", 5),) * 3 + (None,)):
            with self.assertRaises(NoDeed):
                done(tree, thing)
        self.assertEqual(pairs_of(tree), ((10, 1), (20, 2)))


class PlainlyTest(unittest.TestCase):
    def test_small_rows(self):
        pairs = ((10, 1), (20, 2))
        self.assertEqual(plainly(pairs, ()), (pairs, ()))
        self.assertEqual(plainly((), (("find", 1), ("drop", 1), ("span", 0, 5))), ((), (None, None, ())))
        self.assertEqual(plainly(pairs, (("put", 15, 0), ("find", 15), ("put", 15, 3), ("drop", 15), ("drop", 15))),
                         (pairs, (None, 0, 0, 3, None)))
        self.assertEqual(plainly(pairs, (("put", 5, 7), ("walk", 5, 20), ("drop", 10), ("span", 0, TOP + 1))),
                         (((5, 7), (20, 2)), (None, ((5, 7), (10, 1)), 1, ((5, 7), (20, 2)))))
        self.assertEqual(plainly(pairs, (("span", 10, 11), ("span", 11, 20), ("span", 20, 21))),
                         (pairs, (((10, 1),), (), ((20, 2),))))
        self.assertEqual(plainly(((0, 0), (TOP, TOP)), (("drop", TOP), ("drop", 0))), ((), (TOP, 0)))

    def test_against_a_plain_dict(self):
        rng = Drawn(33)
        for turn in range(40):
            pairs = tuple((key, rng.randint(0, 9)) for key in sorted(rng.sample(range(60), rng.randint(0, 30))))
            deeds = tuple(random_deed(rng, 60) for _ in range(50))
            plain = PlainMap(pairs)
            answers = tuple(plain.do(deed) for deed in deeds)
            self.assertEqual(plainly(pairs, deeds), (plain.pairs(), answers))

    def test_refusals(self):
        wrong = [thing for thing in ANYTHING if not (type(thing) is tuple and thing == ())] + [
            ((20, 1), (10, 1)), ((10, 1), (10, 1)), ((10, 1), (10, 2)), ((10, 1), (5, 2), (20, 1)), [(10, 1)],
            ([10, 1],), ((10,),), ((10, 1, 1),), ((True, 1),), ((10, True),), ((-1, 1),), ((10, -1),),
            ((TOP + 1, 1),), ((10, TOP + 1),), ((None, 1),), ((10, None),), ((10, 1), None), {10: 1}, (10, 1)]
        for thing in wrong:
            for deeds in ((), (("find", 5),), None, ANYTHING):
                with self.assertRaises(NoPairs):
                    plainly(thing, deeds)
        for thing in ANYTHING:
            if thing != () or type(thing) is not tuple:
                with self.assertRaises(NoDeed):
                    plainly(((10, 1),), thing)
        for thing in broken_deeds():
            with self.assertRaises(NoDeed):
                plainly((), (thing,))
            with self.assertRaises(NoDeed):
                plainly((), (("find", 5), thing))


class UnlikeTest(unittest.TestCase):
    def test_like_trees(self):
        rng = Drawn(34)
        for room in range(3, 9):
            tree = random_tree(rng, room, 3)
            self.assertEqual(unlike(tree, (tree[0], tree[1], tuple(list(tree[2])))), ())
            self.assertEqual(unlike(empty(room=room), empty(room=room)), ())

    def test_a_put_and_a_drop(self):
        tree = (3, 7, ((2, ("leaf", ((10, 1), (20, 2)), 5)), (5, ("leaf", ((30, 3), (40, 4)), 0)),
                       (7, ("node", (30,), (2, 5)))))
        self.assertEqual(unlike(tree, put(tree, 20, 9)[0]),
                         ((2, ("leaf", ((10, 1), (20, 2)), 5), ("leaf", ((10, 1), (20, 9)), 5)),))
        self.assertEqual(unlike(tree, put(tree, 20, 2)[0]), ())
        self.assertEqual(unlike(tree, drop(tree, 21)[0]), ())
        gone = drop(tree, 10)[0]
        self.assertEqual(unlike(tree, gone), (
            (0, ("head", 7), ("head", 2)),
            (2, ("leaf", ((10, 1), (20, 2)), 5), ("leaf", ((20, 2), (30, 3), (40, 4)), 0)),
            (5, ("leaf", ((30, 3), (40, 4)), 0), None), (7, ("node", (30,), (2, 5)), None)))
        self.assertEqual(unlike(gone, tree), (
            (0, ("head", 2), ("head", 7)),
            (2, ("leaf", ((20, 2), (30, 3), (40, 4)), 0), ("leaf", ((10, 1), (20, 2)), 5)),
            (5, None, ("leaf", ((30, 3), (40, 4)), 0)), (7, None, ("node", (30,), (2, 5)))))
        grown = done(tree, (("put", 31, 0), ("put", 32, 0)))[0]
        self.assertEqual([row[0] for row in unlike(tree, grown)], [1, 5, 7])
        self.assertEqual(unlike(tree, grown)[0], (1, None, ("leaf", ((32, 0), (40, 4)), 0)))

    def test_another_root_alone(self):
        one = (4, 1, ((1, ("leaf", ((5, 5),), 0)),))
        other = (4, 2, ((2, ("leaf", ((5, 5),), 0)),))
        self.assertEqual(unlike(one, other), ((0, ("head", 1), ("head", 2)), (1, ("leaf", ((5, 5),), 0), None),
                                              (2, None, ("leaf", ((5, 5),), 0))))

    def test_laid_over_the_pages_ahead_it_makes_the_tree_behind(self):
        rng = Drawn(35)
        for turn in range(60):
            room = rng.randint(3, 8)
            one, other = random_tree(rng, room, rng.randint(1, 3), 600), random_tree(rng, room, rng.randint(1, 3), 600)
            if turn % 2:
                other = done(one, tuple(random_deed(rng, 600) for _ in range(rng.randint(1, 30))))[0]
            rows = unlike(one, other)
            self.assertEqual([row[0] for row in rows], sorted({row[0] for row in rows}))
            pages = {0: ("head", one[1]), **dict(one[2])}
            for number, before, after in rows:
                self.assertEqual(pages.get(number), before)
                self.assertNotEqual(before, after)
                pages.pop(number, None)
                if after is not None:
                    pages[number] = after
            head = pages.pop(0)
            self.assertEqual((room, head[1], tuple(sorted(pages.items()))), other)
            self.assertEqual(unlike(other, one), tuple((number, after, before) for number, before, after in rows))

    def test_refusals(self):
        tree, wide = empty(room=4), empty(room=5)
        for thing in ANYTHING:
            for other in (tree, wide, thing):
                with self.assertRaises(NoTree):
                    unlike(thing, other)
                with self.assertRaises(NoTree):
                    unlike(other, thing)
        for room in range(3, 9):
            for other in range(3, 9):
                if room != other:
                    with self.assertRaises(NoRoom):
                        unlike(empty(room=room), empty(room=other))
        with self.assertRaises(NoRoom):
            unlike(planted(((1, 1),), room=3), planted(((1, 1),), room=8))
