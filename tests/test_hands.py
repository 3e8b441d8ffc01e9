"""Several hands: waiting, runs, being alike, refusals."""

import unittest

from latchgrove.errors import NoHand, NoPrograms, NoRule, NoTree
from latchgrove.hands.hands import Hands
from latchgrove.hands.steps import COUPLED, HOPEFUL, LOOSE
from latchgrove.latches.table import Latches
from latchgrove.pages.trees import empty
from tests.helpers import ANYTHING, NO_WHOLE, tree_of

ONE = tree_of(3, 1, {1: (10, 20)})
WIDE = tree_of(3, 9, {1: (0, 10, 20), 2: (30, 40), 3: (50, 60)}, {9: (1, 2, 3)})
# Above 1, 2, 3 and 4, 5 two nodes.
HIGH = tree_of(3, 20, {1: (10, 20), 2: (30, 40), 3: (50, 60), 4: (70, 80), 5: (90, 95)},
               {11: (1, 2, 3), 12: (4, 5), 20: (11, 12)})
NO_HANDS = NO_WHOLE + (-1, 2, 60, 61, 10 ** 39, -10 ** 39)


def hands_of(tree, programs, weaving, rule=COUPLED):
    """Hands behind a weaving such as "0011"."""
    hands = Hands(tree, programs, rule=rule)
    hands.run(tuple(int(hand) for hand in weaving))
    return hands


class WaitingTest(unittest.TestCase):
    def test_had_by_another_ones_let_without_a_step(self):
        hands = Hands(ONE, ((("put", 15, 5),), (("find", 15),), (("find", 10),)))
        self.assertEqual(hands.step(0), ("take", 0, True, True))
        self.assertEqual(hands.step(1), ("take", 0, False, False))
        self.assertEqual((hands.can_step(1), hands.is_through(1), hands.step(1)), (False, False, None))
        self.assertEqual(hands.step(2), ("take", 0, False, False))
        self.assertEqual(hands.latches().queue(0), ((1, False), (2, False)))
        self.assertEqual(hands.step(0), ("take", 1, True, True))
        self.assertEqual(hands.step(0), ("let", 0))
        self.assertEqual([hands.can_step(hand) for hand in range(3)], [True, True, True])
        self.assertEqual(hands.latches().holders(0), ((1, False), (2, False)))
        self.assertEqual(hands.step(2), ("take", 1, False, False))
        self.assertEqual(hands.step(1), ("take", 1, False, False))
        self.assertEqual([hands.step(hand) for hand in (1, 2)], [None, None])
        self.assertEqual(hands.step(0), ("point", None))
        self.assertEqual(hands.step(0), ("let", 1))
        self.assertEqual((hands.is_through(0), hands.can_step(0), hands.step(0)), (True, False, None))
        self.assertEqual([hands.step(hand) for hand in (1, 2, 1, 2)],
                         [("let", 0), ("let", 0), ("point", 5), ("point", 10)])
        self.assertEqual([hands.step(hand) for hand in (2, 1)], [("let", 1), ("let", 1)])
        self.assertEqual(hands.points(), ((0, ("put", 15, 5), None), (1, ("find", 15), 5), (2, ("find", 10), 10)))
        # Steps are numbered over all hands; what is no step has no number.
        self.assertEqual(hands.history(), ((0, ("put", 15, 5), None, 0, 8), (2, ("find", 10), 10, 2, 13),
                                           (1, ("find", 15), 5, 1, 14)))
        self.assertEqual(hands.answers(), ((None,), (5,), (10,)))
        self.assertEqual(len(hands), 3)

    def test_answers_are_of_deeds_done_and_points_of_all(self):
        hands = hands_of(ONE, ((("find", 10),), (("find", 20), ("find", 15))), "00001111")
        self.assertEqual(hands.points(), ((0, ("find", 10), 10), (1, ("find", 20), 20)))
        self.assertEqual((hands.answers(), hands.history(), len(hands)), (((), ()), (), 0))
        hands.step(1)
        self.assertEqual(hands.answers(), ((), (20,)))
        self.assertEqual(hands.history(), ((1, ("find", 20), 20, 4, 8),))
        self.assertEqual((len(hands), hands.is_through(1)), (1, False))

    def test_the_mate_on_the_left_while_a_span_reads_on(self):
        hands = Hands(WIDE, ((("drop", 60),), (("span", 30, 70),)))
        hands.run((1, 1, 1, 1, 1))
        self.assertEqual(hands.latches().held(1), ((2, False),))
        self.assertEqual(hands.run((0, 0, 0, 0)), (("take", 0, True, True), ("take", 9, True, True), ("let", 0),
                                                   ("take", 3, True, True)))
        self.assertEqual(hands.step(1), ("take", 3, False, False))
        # It lets its leaf for the mate's sake, and the span reads that in between.
        self.assertEqual(hands.run((0, 0, 0)), (("let", 3), ("take", 2, True, False), None))
        self.assertEqual(hands.run((1, 1, 1)), (("point", ((30, 30), (40, 40), (50, 50), (60, 60))), ("let", 2),
                                                ("let", 3)))
        self.assertEqual(hands.run((0, 0, 0, 0, 0)), (("take", 3, True, True), ("point", 60), ("let", 9), ("let", 2),
                                                      ("let", 3)))

    def test_a_new_page_with_the_number_of_one_that_is_gone(self):
        programs = ((("drop", 60),), (("put", 25, 5),), (("find", 25),))
        hands = hands_of(WIDE, programs, "0" * 9)
        self.assertEqual([number for number, _ in hands.tree()[2]], [1, 2, 9])
        self.assertEqual(hands.latches().held(0), ((2, True), (3, True)))
        # The put parts leaf 1: its new page is 3, whose latch the drop still holds.
        self.assertEqual(hands.run((1,) * 4), (("take", 0, True, True), ("take", 9, True, True), ("let", 0),
                                               ("take", 1, True, True)))
        self.assertEqual(hands.run((1, 1, 1)), (("point", None), ("let", 9), ("let", 1)))
        self.assertEqual(dict(hands.tree()[2])[3], ("leaf", ((20, 20), (25, 5)), 2))
        self.assertEqual(hands.run((2,) * 4), (("take", 0, False, True), ("take", 9, False, True), ("let", 0),
                                               ("take", 3, False, False)))
        self.assertEqual(hands.run((0, 0)), (("let", 2), ("let", 3)))
        self.assertEqual(hands.run((2, 2, 2)), (("let", 9), ("point", 5), ("let", 3)))

    def test_a_hopeful_put_takes_its_leaf_by_the_height_that_it_read(self):
        # The tree grows a level above hand 0, which waits for its leaf and takes that alone as before.
        tree = tree_of(3, 9, {1: (0, 10, 20), 2: (30, 40, 50), 3: (60, 70)}, {9: (1, 2, 3)})
        hands = Hands(tree, ((("put", 75, 1),), (("put", 45, 2),)), rule=HOPEFUL)
        hands.run((0, 0, 0))
        self.assertEqual(hands.run((1,) * 7), (
            ("take", 0, False, True), ("take", 9, False, True), ("let", 0), ("take", 2, True, True), ("let", 9),
            ("let", 2), ("take", 0, True, True)))
        self.assertEqual(hands.run((0, 0)), (("take", 3, True, True), ("let", 9)))
        self.assertEqual(hands.run((1,) * 3), (("take", 9, True, True), ("take", 2, True, True), ("point", None)))
        self.assertEqual(hands.tree()[1], 6)
        self.assertEqual(hands.run((0, 0)), (("point", None), ("let", 3)))


class LooseTest(unittest.TestCase):
    def test_a_find_that_is_lost(self):
        hands = Hands(WIDE, ((("find", 60),), (("drop", 60),)), rule=LOOSE)
        self.assertEqual(hands.run((0,) * 4), (("take", 0, False, True), ("let", 0), ("take", 9, False, True),
                                               ("let", 9)))
        hands.run((1,) * 8)
        # Leaf 3 is gone, its latch still held.
        self.assertEqual(hands.step(0), ("take", 3, False, False))
        self.assertEqual(hands.run((1, 1, 1)), (("let", 9), ("let", 2), ("let", 3)))
        self.assertEqual(hands.latches().held(0), ((3, False),))
        self.assertEqual(hands.step(0), ("point", "lost"))
        self.assertEqual(hands.step(0), ("let", 3))
        self.assertEqual(hands.points(), ((1, ("drop", 60), 60), (0, ("find", 60), "lost")))
        self.assertEqual(hands.history()[1], (0, ("find", 60), "lost", 0, 17))

    def test_what_it_read_as_it_was_had_is_what_counts(self):
        # As page 3 is had there is none; one that comes by that number ahead of the point makes no odds.
        hands = Hands(WIDE, ((("find", 60),), (("drop", 60), ("put", 5, 5))), rule=LOOSE)
        hands.run((0,) * 4 + (1,) * 11)
        self.assertEqual(hands.step(0), ("take", 3, False, True))
        hands.run((1,) * 20)
        self.assertEqual(dict(hands.tree()[2])[3], ("leaf", ((10, 10), (20, 20)), 2))
        self.assertEqual(hands.run((0, 0)), (("point", "lost"), ("let", 3)))

    def test_a_page_of_the_same_number_is_gone_on_from(self):
        hands = Hands(WIDE, ((("find", 60),), (("drop", 60), ("put", 5, 5))), rule=LOOSE)
        hands.run((0,) * 4 + (1,) * 31)
        self.assertTrue(hands.is_through(1))
        self.assertEqual(hands.run((0,) * 3), (("take", 3, False, True), ("point", None), ("let", 3)))
        # A node of that number: down from there.
        hands = Hands(tree_of(3, 1, {1: (10, 20, 30)}), ((("find", 30), ("find", 30)), (("put", 40, 4),)), rule=LOOSE)
        hands.run((0, 0))
        hands.run((1,) * 9)
        self.assertEqual(hands.tree()[1], 3)
        self.assertEqual(hands.run((0,) * 3), (("take", 1, False, True), ("point", None), ("let", 1)))
        self.assertEqual(hands.run((0,) * 6), (("take", 0, False, True), ("let", 0), ("take", 3, False, True),
                                               ("let", 3), ("take", 2, False, True), ("point", 30)))

    def test_a_find_that_comes_to_a_node_where_its_root_was(self):
        # Root 3 above leaves 1 and 2 is gone, and a put makes a new root of its number.
        tree = tree_of(3, 3, {1: (10, 20), 2: (30, 40)}, {3: (1, 2)})
        deeds = (("drop", 10), ("put", 50, 5), ("put", 60, 6))
        hands = Hands(tree, ((("find", 60),), deeds), rule=LOOSE)
        hands.run((0, 0))
        while not hands.is_through(1):
            hands.step(1)
        self.assertEqual(hands.tree()[1], 3)
        self.assertEqual(hands.run((0,) * 5), (("take", 3, False, True), ("let", 3), ("take", 2, False, True),
                                               ("point", 6), ("let", 2)))

    def test_a_find_that_goes_astray(self):
        # A put parts leaf 1 between the find's steps: 20 stands on the right of it then.
        hands = Hands(WIDE, ((("find", 20),), (("put", 15, 5),)), rule=LOOSE)
        hands.run((0,) * 4)
        hands.run((1,) * 9)
        self.assertEqual(hands.step(0), ("take", 1, False, True))
        self.assertEqual(hands.step(0), ("point", None))
        # By COUPLED the same find holds the root, for which the put waits.
        hands = Hands(WIDE, ((("find", 20),), (("put", 15, 5),)))
        hands.run((0,) * 3)
        self.assertEqual(hands.run((1, 1)), (("take", 0, True, True), ("take", 9, True, False)))
        self.assertEqual(hands.run((0, 0, 0)), (("take", 1, False, True), ("let", 9), ("point", 20)))


class RunTest(unittest.TestCase):
    programs = ((("put", 15, 5),), (("find", 15), ("drop", 10)))

    def test_what_each_step_tells(self):
        hands, other = Hands(ONE, self.programs), Hands(ONE, self.programs)
        weaving = (0, 1, 1, 0, 0, 1, 1, 0, 0, 0, 1, 1, 1, 1, 1, 1, 1, 1, 1)
        told = hands.run(weaving)
        self.assertEqual(told, tuple(other.step(hand) for hand in weaving))
        self.assertIs(type(told), tuple)
        self.assertEqual(told[:5], (("take", 0, True, True), ("take", 0, False, False), None, ("take", 1, True, True),
                                    ("let", 0)))
        self.assertEqual(hands, other)
        self.assertEqual((hands.history(), hands.points()), (other.history(), other.points()))
        self.assertEqual(hands.run(()), ())

    def test_runs(self):
        hands = Hands(ONE, self.programs)
        self.assertEqual(hands.runs(), ())
        hands.run((0, 1, 1, 1))
        self.assertEqual(hands.runs(), ((0, 2),))
        hands.run(())
        hands.step(0)
        hands.run((0, 1, 1))
        self.assertEqual(hands.runs(), ((0, 2), (2, 2), (3, 5)))
        # Refused in its middle and at its first hand.
        with self.assertRaises(NoHand):
            hands.run((0, 2, 1))
        with self.assertRaises(NoHand):
            hands.run((2, 0))
        self.assertEqual(hands.runs(), ((0, 2), (2, 2), (3, 5), (5, 6), (6, 6)))
        with self.assertRaises(NoHand):
            hands.run((0, 1, 1, None))
        self.assertEqual(hands.runs()[5:], ((6, 9),))

    def test_no_hand_at_the_first_that_is_none_those_ahead_done(self):
        for thing in NO_HANDS:
            hands, other = Hands(ONE, self.programs), Hands(ONE, self.programs)
            with self.assertRaises(NoHand):
                hands.run((0, 0, thing, 0, 0))
            other.run((0, 0))
            self.assertEqual(hands, other)
            self.assertEqual(hands.runs(), ((0, 2),))
            with self.assertRaises(NoHand):
                hands.run((thing,))
            self.assertEqual(hands, other)
            self.assertEqual(hands.runs(), ((0, 2), (2, 2)))

    def test_no_hand(self):
        hands, other = Hands(ONE, self.programs), Hands(ONE, self.programs)
        for thing in NO_HANDS:
            for method in (hands.step, hands.can_step, hands.is_through):
                with self.assertRaises(NoHand):
                    method(thing)
        self.assertEqual(hands, other)
        self.assertEqual((hands.runs(), len(hands)), ((), 0))

    def test_latches_are_a_copy(self):
        hands = hands_of(ONE, self.programs, "01")
        latches = hands.latches()
        self.assertIsInstance(latches, Latches)
        self.assertEqual((latches.holders(0), latches.queue(0), len(latches)), (((0, True),), ((1, False),), 1))
        latches.let(0, 0)
        latches.take(5, 7)
        self.assertEqual((hands.latches().holders(0), hands.latches().holders(7)), (((0, True),), ()))
        self.assertEqual(hands.step(0), ("take", 1, True, True))
        self.assertEqual((latches.holders(0), latches.holders(1)), (((1, False),), ()))

    def test_what_was_told_stays(self):
        hands = Hands(ONE, self.programs)
        told = (hands.tree(), hands.points(), hands.history(), hands.answers(), hands.runs())
        hands.run((0,) * 6)
        self.assertEqual(told, (ONE, (), (), ((), ()), ()))


class EqualTest(unittest.TestCase):
    def same(self, one, other, equal):
        self.assertIs(one == other, equal)
        self.assertIs(other == one, equal)
        self.assertIs(one != other, not equal)

    def test_alike(self):
        programs = ((("find", 10),), (("put", 15, 5),))
        for weaving in ("", "0", "00", "0101", "01010101", "0000001111111"):
            self.same(hands_of(ONE, programs, weaving), hands_of(ONE, programs, weaving), True)
        # What runs there were, and what was no step, is no part of it.
        one = hands_of(ONE, programs, "0111")
        other = Hands(ONE, programs)
        for hand in (0, 1):
            other.step(hand)
        self.same(one, other, True)

    def test_in_which_order_points_came_is_no_part_of_it(self):
        programs = ((("find", 10),), (("find", 20),))
        one, other = hands_of(ONE, programs, "0101010101"), hands_of(ONE, programs, "1010101010")
        self.assertNotEqual(one.points(), other.points())
        self.assertNotEqual(one.history(), other.history())
        self.same(one, other, True)
        # Both begun, both not done: how many steps each has done is alike.
        self.same(hands_of(ONE, programs, "0011"), hands_of(ONE, programs, "0101"), True)
        self.same(hands_of(WIDE, ((("find", 10),), (("find", 40),)), "0000111100"),
                  hands_of(WIDE, ((("find", 10),), (("find", 40),)), "1010001001"), True)

    def test_which_deeds_were_done_ahead_of_each_begin(self):
        programs = ((("find", 10),), (("find", 20),))
        behind = [hands_of(ONE, programs, weaving) for weaving in ("0000011111", "1111100000", "0101010101")]
        for one in range(3):
            for other in range(3):
                self.same(behind[one], behind[other], one == other)
        # Also of a deed that is not done.
        programs = ((("find", 10),), (("find", 20),), (("find", 30),))
        self.same(hands_of(ONE, programs, "000002"), hands_of(ONE, programs, "000020"), False)
        self.same(hands_of(ONE, programs, "00000211111"), hands_of(ONE, programs, "00000111112"), False)
        self.same(hands_of(ONE, programs, "00000111112"), hands_of(ONE, programs, "01010101012"), False)
        self.same(hands_of(ONE, programs, "0101010101"), hands_of(ONE, programs, "1010101010"), True)

    def test_the_tree(self):
        programs = ((("find", 10),),)
        self.same(Hands(ONE, programs), Hands(WIDE, programs), False)
        self.same(Hands(ONE, programs), Hands((4,) + ONE[1:], programs), False)
        self.same(Hands(ONE, programs), Hands(tree_of(3, 2, {2: (10, 20)}), programs), False)
        # Puts of one key in two orders: trees unlike, all else is alike but for the answers.
        programs = ((("put", 15, 1),), (("put", 15, 2),))
        self.same(hands_of(ONE, programs, "0100101111"), hands_of(ONE, programs, "1011010000"), False)

    def test_the_answers(self):
        programs = ((("put", 15, 1),), (("put", 15, 1),))
        one, other = hands_of(ONE, programs, "010000111111"), hands_of(ONE, programs, "101111000000")
        self.assertEqual((len(one), len(other)), (2, 2))
        self.assertEqual((one.tree(), one.latches()), (other.tree(), other.latches()))
        self.assertEqual((one.answers(), other.answers()), (((None,), (1,)), ((1,), (None,))))
        self.same(one, other, False)

    def test_the_latches(self):
        # Hands 1 and 2 wait for the head in two orders, and have the same in mind.
        programs = ((("put", 15, 1),), (("find", 10),), (("find", 20),))
        self.same(hands_of(ONE, programs, "012"), hands_of(ONE, programs, "021"), False)
        self.same(hands_of(ONE, programs, "012000"), hands_of(ONE, programs, "021000"), True)

    def test_how_far(self):
        programs = ((("find", 10),), (("span", 0, 100),))
        # Ahead of the point and behind it the same latches are held.
        one, other = hands_of(ONE, programs, "000"), hands_of(ONE, programs, "0000")
        self.assertEqual((one.latches(), one.tree(), one.answers()), (other.latches(), other.tree(), other.answers()))
        self.same(one, other, False)
        # A hopeful put that goes on anew, and one that is at its first step.
        full = tree_of(3, 1, {1: (10, 20, 30)})
        one = hands_of(full, ((("put", 15, 1),),), "0000", HOPEFUL)
        self.same(one, Hands(full, ((("put", 15, 1),),), rule=HOPEFUL), False)

    def test_what_it_read(self):
        # The walk reads leaf 1 ahead of the put of 10 and behind it; all else is alike.
        programs = ((("walk", 0, 100),), (("put", 10, 7),))
        early = hands_of(WIDE, programs, "0000000" + "1111111")
        late = hands_of(WIDE, programs, "10" + "111111" + "000000")
        self.assertEqual((early.answers(), late.answers()), (((), (10,)), ((), (10,))))
        self.assertEqual((early.tree(), early.latches()), (late.tree(), late.latches()))
        self.same(early, late, False)
        # A loose find that found no page 3, and one that found the new one of that number.
        programs = ((("find", 60),), (("drop", 60), ("put", 5, 5)))
        early = hands_of(WIDE, programs, "0000" + "1" * 11 + "0" + "1" * 20, LOOSE)
        late = hands_of(WIDE, programs, "0000" + "1" * 31 + "0", LOOSE)
        self.assertEqual((early.tree(), early.latches(), early.answers()), (late.tree(), late.latches(), late.answers()))
        self.same(early, late, False)

    def test_what_it_has_behind_it_is_no_part_of_it(self):
        # Hand 0 comes to leaf 3 ahead of the root's growing, or behind it, by one page more.
        for deed, rule in ((("find", 60), COUPLED), (("span", 60, 70), COUPLED), (("put", 65, 5), COUPLED),
                           (("put", 65, 5), HOPEFUL), (("drop", 65), HOPEFUL), (("find", 60), LOOSE)):
            programs = ((deed,), (("put", 15, 5),))
            early, late = Hands(WIDE, programs, rule=rule), Hands(WIDE, programs, rule=rule)
            while early.latches().held(0) not in (((3, False),), ((3, True),)):
                early.step(0)
            while not early.is_through(1):
                early.step(1)
            while late.latches().held(1) != ((0, True),):
                late.step(1)
            late.step(0)
            while not late.is_through(1):
                late.step(1)
            while late.latches().held(0) != early.latches().held(0):
                late.step(0)
            self.assertGreater(len(early.tree()[2]), 5)
            self.same(early, late, True)
            self.assertEqual(early.run((0,) * 9), late.run((0,) * 9))

    def test_what_it_takes_next(self):
        # A loose find that read the root ahead of its parting, and one that read it behind.
        full = tree_of(3, 1, {1: (10, 20, 30)})
        programs = ((("find", 30),), (("put", 15, 1),))
        early = hands_of(full, programs, "00" + "1" * 9, LOOSE)
        late = hands_of(full, programs, "1" + "0" + "1" * 9 + "0", LOOSE)
        self.assertEqual((early.tree(), early.latches(), early.answers()), (late.tree(), late.latches(), late.answers()))
        self.same(early, late, False)
        self.assertNotEqual(early.step(0), late.step(0))

    def test_copied_hands_go_on_by_themselves(self):
        programs = ((("put", 15, 5), ("find", 10)), (("drop", 10), ("walk", 0, 50)))
        for rule in (COUPLED, HOPEFUL, LOOSE):
            for many in range(0, 22, 3):
                one = hands_of(WIDE, programs, "0110", rule)
                one.run((0, 1, 0) * many)
                other, like = one.copied(), one.copied()
                self.same(one, other, True)
                for hands in (other, like):
                    self.assertEqual((hands.points(), hands.history(), hands.answers(), hands.tree(), hands.latches(), len(hands)),
                                     (one.points(), one.history(), one.answers(), one.tree(), one.latches(), len(one)))
                told = other.run((0, 1, 1) * 30)
                self.same(one, like, True)
                self.assertEqual(one.run((0, 1, 1) * 30), told)
                self.assertEqual((one.points(), one.history()), (other.points(), other.history()))

    def test_never_equal_to_a_thing_of_another_kind(self):
        class Any:
            def __eq__(self, other):
                return True

        hands = Hands(ONE, ((),))
        for thing in ANYTHING + (Hands, object(), Latches()):
            self.same(hands, thing, False)
        self.assertIs(hands == Any(), False)

    def test_what_the_one_does_leaves_the_other(self):
        programs = ((("put", 15, 5),),)
        one, other = Hands(ONE, programs), Hands(ONE, programs)
        one.run((0,) * 5)
        self.assertEqual((other.tree(), len(other.latches()), other.points()), (ONE, 0, ()))
        self.same(one, other, False)
        other.run((0,) * 5)
        self.same(one, other, True)
        self.assertEqual(ONE, tree_of(3, 1, {1: (10, 20)}))


class RefusalsTest(unittest.TestCase):
    def test_no_tree_then_no_programs_then_no_rule(self):
        good = ((("find", 1),),)
        for thing in ANYTHING:
            for programs in (good, thing, ()):
                for rule in (COUPLED, thing):
                    with self.assertRaises(NoTree):
                        Hands(thing, programs, rule=rule)
            if type(thing) is not tuple or thing != ((), ()):
                for rule in (COUPLED, thing, "other"):
                    with self.assertRaises(NoPrograms):
                        Hands(empty(), thing, rule=rule)
            with self.assertRaises(NoRule):
                Hands(empty(), good, rule=thing)
        for rule in ("Coupled", "COUPLED", "coupled ", "loosely", b"loose", ("coupled",), ["coupled"], None, 0):
            with self.assertRaises(NoRule):
                Hands(empty(), good, rule=rule)
        for programs in ((), ((),) * 7, ((("find", 1),) * 9,), ((("find", -1),),), [()], (("find", 1),)):
            with self.assertRaises(NoPrograms):
                Hands(empty(), programs)

    def test_coupled_where_no_rule_is_said(self):
        programs = ((("put", 15, 1),),)
        self.assertEqual(Hands(ONE, programs).step(0), ("take", 0, True, True))
        self.assertEqual(Hands(ONE, programs, rule=HOPEFUL).step(0), ("take", 0, False, True))
