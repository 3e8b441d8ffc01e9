"""One hand alone: for each kind of deed and each rule its steps one by one."""

import unittest

from latchgrove.deeds.rows import done
from latchgrove.hands.hands import Hands
from latchgrove.pages.trees import is_tree
from tests.helpers import tree_of

RULES = ("coupled", "hopeful", "loose")
ONE = tree_of(3, 1, {1: (0, 10, 20)})
FULL = tree_of(3, 1, {1: (10, 20, 30)})
POOR = tree_of(3, 5, {5: (10,)})
EMPTY = tree_of(3, 1, {1: ()})
# Leaves 1, 2, 3 beneath a full root.
WIDE = tree_of(3, 9, {1: (0, 10, 20), 2: (30, 40), 3: (50, 60)}, {9: (1, 2, 3)})
# Three levels: 20 above 11 (1 and 2) and 12 (3, 4 and 5).
HIGH = tree_of(3, 20, {1: (10, 20), 2: (30, 40, 50), 3: (60, 70), 4: (80, 90), 5: (100, 110, 120)},
               {11: (1, 2), 12: (3, 4, 5), 20: (11, 12)})
# Three levels, the left node being the one that can lend.
LEFT = tree_of(3, 20, {1: (10, 20), 2: (30, 40), 3: (50, 60), 4: (70, 80), 5: (90, 95)},
               {11: (1, 2, 3), 12: (4, 5), 20: (11, 12)})
# Three levels that no page of can spare a part.
BARE = tree_of(3, 20, {1: (10, 20), 2: (30, 40), 3: (50, 60), 4: (70, 80)}, {11: (1, 2), 12: (3, 4), 20: (11, 12)})
# Three levels that have no room on the way to 12.
STUFFED = tree_of(3, 20, {1: (10, 20, 30), 2: (40, 50), 3: (60, 70), 4: (80, 90), 5: (100, 110), 6: (120, 130),
                          7: (140, 150)}, {11: (1, 2, 3), 12: (4, 5), 13: (6, 7), 20: (11, 12, 13)})


def said(told):
    """A step as a word: "+7" a take shared, "*7" alone, "?" behind it where it waits; "-7" a let; "!" a point."""
    if told is None:
        return "none"
    if told[0] == "take":
        return ("*" if told[2] else "+") + str(told[1]) + ("" if told[3] else "?")
    return "-" + str(told[1]) if told[0] == "let" else "!"


class AloneTest(unittest.TestCase):
    def steps(self, tree, deed, words, rules=RULES):
        """The deed takes these steps by each of the rules, and does what it does done plainly."""
        self.assertTrue(is_tree(tree))
        after, answers = done(tree, (deed,))
        for rule in rules:
            hands = Hands(tree, ((deed,),), rule=rule)
            row, came = words.split(), False
            for number, word in enumerate(row):
                self.assertEqual((hands.can_step(0), hands.is_through(0)), (True, False))
                told = hands.step(0)
                self.assertEqual(said(told), word, (rule, number, row))
                came = came or word == "!"
                self.assertEqual(hands.tree(), after if came else tree)
                self.assertEqual(hands.points(), ((0, deed, answers[0]),) if came else ())
                last = number == len(row) - 1
                self.assertEqual(hands.history(), ((0, deed, answers[0], 0, number),) if last else ())
                self.assertEqual(hands.answers(), (answers if last else (),))
                self.assertEqual(len(hands), int(last))
                if word == "!":
                    self.assertEqual(told, ("point", answers[0]))
            self.assertEqual((hands.can_step(0), hands.is_through(0)), (False, True))
            self.assertIsNone(hands.step(0))
            self.assertEqual(len(hands.latches()), 0)

    def test_what_a_step_tells(self):
        hands = Hands(ONE, ((("find", 10), ("put", 10, 7)),))
        self.assertEqual([hands.step(0) for _ in range(6)], [
            ("take", 0, False, True), ("take", 1, False, True), ("let", 0), ("point", 10), ("let", 1),
            ("take", 0, True, True)])
        self.assertEqual([hands.step(0) for _ in range(5)], [
            ("take", 1, True, True), ("let", 0), ("point", 10), ("let", 1), None])

    def test_find(self):
        coupled = ("coupled", "hopeful")
        self.steps(ONE, ("find", 10), "+0 +1 -0 ! -1", coupled)
        self.steps(EMPTY, ("find", 10), "+0 +1 -0 ! -1", coupled)
        self.steps(WIDE, ("find", 29), "+0 +9 -0 +1 -9 ! -1", coupled)
        self.steps(WIDE, ("find", 30), "+0 +9 -0 +2 -9 ! -2", coupled)
        self.steps(HIGH, ("find", 40), "+0 +20 -0 +11 -20 +2 -11 ! -2", coupled)
        self.steps(HIGH, ("find", 10 ** 9), "+0 +20 -0 +12 -20 +5 -12 ! -5", coupled)

    def test_a_loose_find_lets_each_page_ahead_of_the_next(self):
        self.steps(ONE, ("find", 10), "+0 -0 +1 ! -1", ("loose",))
        self.steps(EMPTY, ("find", 0), "+0 -0 +1 ! -1", ("loose",))
        self.steps(WIDE, ("find", 30), "+0 -0 +9 -9 +2 ! -2", ("loose",))
        self.steps(HIGH, ("find", 40), "+0 -0 +20 -20 +11 -11 +2 ! -2", ("loose",))

    def test_a_put_that_is_safe(self):
        coupled = ("coupled", "loose")
        self.steps(POOR, ("put", 5, 1), "*0 *5 -0 ! -5", coupled)
        self.steps(EMPTY, ("put", 5, 1), "*0 *1 -0 ! -1", coupled)
        # A full leaf that has the key.
        self.steps(FULL, ("put", 20, 1), "*0 *1 -0 ! -1", coupled)
        self.steps(HIGH, ("put", 15, 1), "*0 *20 -0 *11 -20 *1 -11 ! -1", coupled)
        self.steps(HIGH, ("put", 50, 1), "*0 *20 -0 *11 -20 *2 -11 ! -2", coupled)
        # Pages above that are not safe are held till one beneath is.
        self.steps(WIDE, ("put", 35, 1), "*0 *9 *2 -0 -9 ! -2", coupled)
        self.steps(HIGH, ("put", 85, 1), "*0 *20 -0 *12 *4 -20 -12 ! -4", coupled)
        self.steps(STUFFED, ("put", 45, 1), "*0 *20 *11 *2 -0 -20 -11 ! -2", coupled)
        self.steps(STUFFED, ("put", 85, 1), "*0 *20 *12 -0 -20 *4 -12 ! -4", coupled)

    def test_a_put_that_parts_pages(self):
        coupled = ("coupled", "loose")
        self.steps(FULL, ("put", 15, 1), "*0 *1 ! -0 -1", coupled)
        self.steps(WIDE, ("put", 15, 1), "*0 *9 *1 ! -0 -9 -1", coupled)
        self.steps(HIGH, ("put", 35, 1), "*0 *20 -0 *11 -20 *2 ! -11 -2", coupled)
        self.steps(HIGH, ("put", 105, 1), "*0 *20 -0 *12 *5 ! -20 -12 -5", coupled)
        self.steps(STUFFED, ("put", 12, 1), "*0 *20 *11 *1 ! -0 -20 -11 -1", coupled)

    def test_a_drop_that_is_safe(self):
        coupled = ("coupled", "loose")
        self.steps(POOR, ("drop", 10), "*0 *5 -0 ! -5", coupled)
        self.steps(EMPTY, ("drop", 10), "*0 *1 -0 ! -1", coupled)
        self.steps(WIDE, ("drop", 10), "*0 *9 -0 *1 -9 ! -1", coupled)
        # A poor leaf without the key.
        self.steps(WIDE, ("drop", 35), "*0 *9 -0 *2 -9 ! -2", coupled)
        self.steps(HIGH, ("drop", 110), "*0 *20 *12 -0 -20 *5 -12 ! -5", coupled)

    def test_a_drop_with_the_mate_on_the_right(self):
        coupled = ("coupled", "loose")
        # Lent by leaf 2, beneath nodes of which none is safe.
        self.steps(HIGH, ("drop", 20), "*0 *20 *11 *12 *1 *2 ! -0 -20 -11 -12 -1 -2", coupled)
        # Put together with leaf 4.
        self.steps(HIGH, ("drop", 60), "*0 *20 *12 -0 -20 *3 *4 ! -12 -3 -4", coupled)
        # The mate of a node, let again as a leaf beneath that is safe is had.
        self.steps(HIGH, ("drop", 40), "*0 *20 *11 *12 *2 -0 -20 -11 -12 ! -2", coupled)
        # Put together up to a root that is gone.
        self.steps(BARE, ("drop", 10), "*0 *20 *11 *12 *1 *2 ! -0 -20 -11 -12 -1 -2", coupled)
        # A root of two kids is not safe: it may be gone.
        two = tree_of(3, 3, {1: (10, 20), 2: (30, 40)}, {3: (1, 2)})
        self.steps(two, ("drop", 10), "*0 *3 *1 *2 ! -0 -3 -1 -2", coupled)
        self.assertEqual(done(two, (("drop", 10),))[0][1], 1)

    def test_a_drop_with_the_mate_on_the_left(self):
        coupled = ("coupled", "loose")
        # Lent by leaf 1.
        self.steps(WIDE, ("drop", 40), "*0 *9 -0 *2 -2 *1 *2 ! -9 -1 -2", coupled)
        # Put together with leaf 2.
        self.steps(WIDE, ("drop", 60), "*0 *9 -0 *3 -3 *2 *3 ! -9 -2 -3", coupled)
        self.steps(HIGH, ("drop", 90), "*0 *20 *12 -0 -20 *4 -4 *3 *4 ! -12 -3 -4", coupled)
        # A node that is lent a kid by the one on its left.
        self.steps(LEFT, ("drop", 90), "*0 *20 *12 -12 *11 *12 *5 -5 *4 *5 ! -0 -20 -11 -12 -4 -5", coupled)
        self.steps(LEFT, ("drop", 70), "*0 *20 *12 -12 *11 *12 *4 *5 ! -0 -20 -11 -12 -4 -5", coupled)
        # A node's mate is let by rank as a page beneath that is safe is had.
        self.steps(LEFT, ("drop", 75), "*0 *20 *12 -12 *11 *12 *4 -0 -20 -11 -12 ! -4", coupled)
        # Put together up to a root that is gone.
        self.steps(BARE, ("drop", 80), "*0 *20 *12 -12 *11 *12 *4 -4 *3 *4 ! -0 -20 -11 -12 -3 -4", coupled)
        self.assertEqual(done(BARE, (("drop", 80),))[0][1], 11)

    def test_spans(self):
        self.steps(EMPTY, ("span", 0, 10 ** 9 + 1), "+0 +1 -0 ! -1")
        self.steps(ONE, ("span", 5, 11), "+0 +1 -0 ! -1")
        # A key from high on ends it, even where it is high itself.
        self.steps(WIDE, ("span", 10, 20), "+0 +9 -0 +1 -9 ! -1")
        self.steps(WIDE, ("span", 10, 21), "+0 +9 -0 +1 -9 +2 ! -1 -2")
        self.steps(WIDE, ("span", 10, 40), "+0 +9 -0 +1 -9 +2 ! -1 -2")
        self.steps(WIDE, ("span", 10, 41), "+0 +9 -0 +1 -9 +2 +3 ! -1 -2 -3")
        self.steps(WIDE, ("span", 45, 10 ** 9 + 1), "+0 +9 -0 +2 -9 +3 ! -2 -3")
        self.steps(WIDE, ("span", 70, 71), "+0 +9 -0 +3 -9 ! -3")
        self.steps(HIGH, ("span", 35, 85), "+0 +20 -0 +11 -20 +2 -11 +3 +4 ! -2 -3 -4")

    def test_walks(self):
        self.steps(EMPTY, ("walk", 0, 10 ** 9 + 1), "+0 +1 -0 ! -1")
        self.steps(ONE, ("walk", 5, 21), "+0 +1 -0 ! -1")
        self.steps(WIDE, ("walk", 10, 20), "+0 +9 -0 +1 -9 ! -1")
        self.steps(WIDE, ("walk", 10, 21), "+0 +9 -0 +1 -9 +2 -1 ! -2")
        self.steps(WIDE, ("walk", 10, 41), "+0 +9 -0 +1 -9 +2 -1 +3 -2 ! -3")
        self.steps(WIDE, ("walk", 45, 10 ** 9 + 1), "+0 +9 -0 +2 -9 +3 -2 ! -3")
        self.steps(HIGH, ("walk", 35, 85), "+0 +20 -0 +11 -20 +2 -11 +3 -2 +4 -3 ! -4")

    def test_a_hopeful_deed_whose_leaf_is_safe(self):
        hopeful = ("hopeful",)
        self.steps(POOR, ("put", 5, 1), "+0 *5 -0 ! -5", hopeful)
        self.steps(FULL, ("put", 20, 1), "+0 *1 -0 ! -1", hopeful)
        self.steps(POOR, ("drop", 10), "+0 *5 -0 ! -5", hopeful)
        self.steps(WIDE, ("put", 35, 1), "+0 +9 -0 *2 -9 ! -2", hopeful)
        self.steps(WIDE, ("drop", 35), "+0 +9 -0 *2 -9 ! -2", hopeful)
        self.steps(WIDE, ("drop", 10), "+0 +9 -0 *1 -9 ! -1", hopeful)
        self.steps(STUFFED, ("put", 45, 1), "+0 +20 -0 +11 -20 *2 -11 ! -2", hopeful)
        self.steps(HIGH, ("drop", 40), "+0 +20 -0 +11 -20 *2 -11 ! -2", hopeful)

    def test_a_hopeful_deed_that_goes_on_anew(self):
        hopeful = ("hopeful",)
        self.steps(FULL, ("put", 15, 1), "+0 *1 -0 -1 *0 *1 ! -0 -1", hopeful)
        self.steps(WIDE, ("put", 15, 1), "+0 +9 -0 *1 -9 -1 *0 *9 *1 ! -0 -9 -1", hopeful)
        self.steps(HIGH, ("put", 35, 1), "+0 +20 -0 +11 -20 *2 -11 -2 *0 *20 -0 *11 -20 *2 ! -11 -2", hopeful)
        self.steps(WIDE, ("drop", 40), "+0 +9 -0 *2 -9 -2 *0 *9 -0 *2 -2 *1 *2 ! -9 -1 -2", hopeful)
        self.steps(BARE, ("drop", 10), "+0 +20 -0 +11 -20 *1 -11 -1 "
                   "*0 *20 *11 *12 *1 *2 ! -0 -20 -11 -12 -1 -2", hopeful)

    def test_deeds_one_behind_another(self):
        deeds = (("find", 10), ("drop", 10), ("find", 10), ("put", 10, 5))
        hands = Hands(POOR, (deeds,))
        row = []
        while hands.can_step(0):
            row.append(said(hands.step(0)))
        self.assertEqual(" ".join(row), "+0 +5 -0 ! -5 *0 *5 -0 ! -5 +0 +5 -0 ! -5 *0 *5 -0 ! -5")
        self.assertEqual(hands.history(), tuple(
            (0, deed, answer, 5 * at, 5 * at + 4) for at, (deed, answer) in enumerate(zip(deeds, (10, 10, None, None)))))
        self.assertEqual(hands.answers(), ((10, 10, None, None),))

    def test_without_deeds(self):
        for rule in RULES:
            hands = Hands(WIDE, ((),), rule=rule)
            self.assertEqual((hands.is_through(0), hands.can_step(0), hands.step(0)), (True, False, None))
            self.assertEqual((hands.tree(), hands.points(), hands.history(), hands.answers(), len(hands)),
                             (WIDE, (), (), ((),), 0))
