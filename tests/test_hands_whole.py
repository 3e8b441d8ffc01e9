"""Many hands in many weavings, against the second hands of tests/model_hands.py and the words of [21]."""

import unittest

from latchgrove.deeds.rows import done
from latchgrove.hands.hands import Hands
from latchgrove.hands.steps import COUPLED, HOPEFUL, LOOSE
from latchgrove.pages.trees import by_rank, is_tree, pairs_of
from tests.helpers import Drawn, random_deed, random_tree
from tests.model_hands import HandsModel

FEW = ("find", "put", "drop", "drop")
ALL = ("find", "put", "put", "drop", "drop", "span", "walk")


class Watch:
    """Hands beside the second ones, and what a walk may tell: which pairs stood when."""

    def __init__(self, test, tree, programs, rule):
        self.test, self.tree, self.programs, self.rule = test, tree, programs, rule
        self.hands, self.model = Hands(tree, programs, rule=rule), HandsModel(tree, programs, rule)
        self.all = range(len(programs))
        self.stood = [dict(pairs_of(tree))]
        self.waits = self.anew = self.lost = 0

    def step(self, hand):
        test, hands, model = self.test, self.hands, self.model
        ahead, held = hands.tree(), hands.latches().held(hand)
        can = model.can(hand)
        told = hands.step(hand)
        test.assertEqual(told, model.step(hand))
        test.assertIs(told is not None, can)
        if told is not None:
            self.stood.append(dict(pairs_of(hands.tree())))
        if told is not None and told[0] == "take":
            self.waits += not told[3]
            self.anew += told[1] == 0 and told[2] and self.rule == HOPEFUL
            if self.rule != LOOSE:
                ranks = by_rank(ahead)
                test.assertTrue(all(ranks.index(page) < ranks.index(told[1]) for page, _ in held))
        self.lost += told == ("point", "lost")
        self.look()

    def look(self):
        """All that the hands show, against the second ones."""
        test, hands, model = self.test, self.hands, self.model
        test.assertEqual(hands.tree(), model.now)
        test.assertEqual(hands.points(), tuple(model.points))
        test.assertEqual(hands.history(), tuple(model.history))
        test.assertEqual(hands.answers(), tuple(tuple(row) for row in model.done))
        test.assertEqual(len(hands), len(model.history))
        latches = hands.latches()
        for page in model.latches.asked:
            test.assertEqual(latches.holders(page), tuple(model.latches.holders(page)))
            test.assertEqual(latches.queue(page), tuple(model.latches.queue(page)))
        for hand in self.all:
            test.assertEqual((hands.can_step(hand), hands.is_through(hand)), (model.can(hand), model.through(hand)))
        if self.rule != LOOSE:
            tree, answers = done(self.tree, tuple(point[1] for point in hands.points()))
            test.assertEqual(hands.tree(), tree)
            for (_, deed, answer), plain in zip(hands.points(), answers):
                if deed[0] != "walk":
                    test.assertEqual(answer, plain)
            if not all(hands.is_through(hand) for hand in self.all):
                test.assertTrue(any(hands.can_step(hand) for hand in self.all))
            test.assertIsNone(latches.ring())

    def look_at_walks(self):
        for _, deed, answer, begin, end in self.hands.history():
            if deed[0] != "walk":
                continue
            keys = [key for key, _ in answer]
            self.test.assertEqual(keys, sorted(set(keys)))
            self.test.assertTrue(all(deed[1] <= key < deed[2] for key in keys))
            # What stood just ahead of its begin and behind each of its steps.
            meanwhile = self.stood[begin:end + 2]
            for key, value in answer:
                self.test.assertTrue(any(pairs.get(key) == value for pairs in meanwhile))
            for key in meanwhile[0]:
                if deed[1] <= key < deed[2] and all(key in pairs for pairs in meanwhile):
                    self.test.assertIn(key, keys)

    def is_through(self):
        return all(self.hands.is_through(hand) for hand in self.all)


class WholeTest(unittest.TestCase):
    def watch(self, draw, rule, turns, words, greatest=80):
        waits = anew = lost = 0
        for _ in range(turns):
            room, height = draw.randint(3, 5), draw.randint(1, 3)
            tree = random_tree(draw, room, height, greatest=150 if height == 3 else greatest)
            programs = tuple(tuple(random_deed(draw, greatest, words) for _ in range(draw.randint(0, 3)))
                             for _ in range(draw.randint(2, 6)))
            watch = Watch(self, tree, programs, rule)
            watch.look()
            while not watch.is_through():
                hand = draw.choice(watch.all)
                for _ in range(draw.randint(1, 4)):
                    watch.step(hand)
            self.assertEqual(len(watch.hands.latches()), 0)
            self.assertIs(is_tree(watch.hands.tree()), True)
            watch.look_at_walks()
            waits, anew, lost = waits + watch.waits, anew + watch.anew, lost + watch.lost
        self.assertGreater(waits, turns)
        return anew, lost

    def test_coupled(self):
        self.watch(Drawn(71), COUPLED, 25, ALL)
        self.watch(Drawn(72), COUPLED, 10, FEW, 30)

    def test_hopeful(self):
        anew, _ = self.watch(Drawn(73), HOPEFUL, 25, ALL)
        self.assertGreater(anew, 10)
        self.watch(Drawn(74), HOPEFUL, 10, FEW, 30)

    def test_loose(self):
        self.watch(Drawn(75), LOOSE, 15, ALL)

    def test_walks_beside_puts_and_drops(self):
        for rule in (COUPLED, HOPEFUL):
            self.watch(Drawn(76), rule, 15, ("walk", "put", "drop"))

    def test_drops_that_put_pages_together_beside_spans(self):
        for rule in (COUPLED, HOPEFUL):
            self.watch(Drawn(77), rule, 15, ("span", "drop", "drop"))


class AllWeavingsTest(unittest.TestCase):
    """Each weaving of small programs, so far as those behind which Hands are equal go on alike."""

    def all_of(self, tree, programs, rule, most):
        found, going, ends = [(Hands(tree, programs, rule=rule), ())], [0], []
        while going:
            at = going.pop(0)
            hands, weaving = found[at]
            can = [hand for hand in range(len(programs)) if hands.can_step(hand)]
            if not can:
                ends.append(hands)
            for hand in can:
                after = Hands(tree, programs, rule=rule)
                after.run(weaving + (hand,))
                if not any(after == one for one, _ in found):
                    found.append((after, weaving + (hand,)))
                    going.append(len(found) - 1)
            self.assertLess(len(found), most)
        return found, ends

    def test_two_hands(self):
        tree = (3, 9, ((1, ("leaf", ((10, 1), (20, 2)), 2)), (2, ("leaf", ((30, 3), (40, 4)), 0)),
                       (9, ("node", (30,), (1, 2)))))
        for rule in (COUPLED, HOPEFUL):
            for programs in (((("drop", 10),), (("find", 40),)), ((("put", 15, 5),), (("drop", 40),)),
                             ((("span", 10, 50),), (("drop", 30),))):
                found, ends = self.all_of(tree, programs, rule, 400)
                for hands in ends:
                    self.assertTrue(all(hands.is_through(hand) for hand in range(2)))
                    self.assertEqual(hands.tree(), done(tree, tuple(point[1] for point in hands.points()))[0])

    def test_what_is_equal_goes_on_alike(self):
        draw = Drawn(78)
        tree = (3, 9, ((1, ("leaf", ((10, 1), (20, 2)), 2)), (2, ("leaf", ((30, 3), (40, 4)), 0)),
                       (9, ("node", (30,), (1, 2)))))
        equal = 0
        for rule in (COUPLED, HOPEFUL, LOOSE):
            for turn in range(25):
                programs = tuple(tuple(random_deed(draw, 50) for _ in range(draw.randint(1, 2))) for _ in range(2))
                some = []
                for _ in range(12):
                    hands = Hands(tree, programs, rule=rule)
                    hands.run(tuple(draw.randint(0, 1) for _ in range(10)))
                    some.append(hands)
                on = tuple(draw.randint(0, 1) for _ in range(60))
                same = [(one, other) for one in range(12) for other in range(one) if some[one] == some[other]]
                told = [hands.run(on) for hands in some]
                for one, other in same:
                    equal += 1
                    self.assertEqual(told[one], told[other])
                    self.assertEqual(some[one], some[other])
        self.assertGreater(equal, 100)
