import unittest

from latchgrove.errors import Holds, HoldsNot, NoHand, NoPage, Waits
from latchgrove.latches.table import Latches
from tests.helpers import ANYTHING, NO_WHOLE, Drawn
from tests.model_latches import LatchModel

NO_HANDS = NO_WHOLE + (-1, 61, 10 ** 6, 10 ** 39, -10 ** 39)
NO_PAGES = NO_WHOLE + (-1, 10 ** 6 + 1, 10 ** 39, -10 ** 39)


def latches_of(*acts):
    """Latches behind acts such as "0+5" (hand 0 takes page 5 shared), "0*5" (alone), "0-5" (lets it)."""
    latches = Latches()
    for act in acts:
        for sign in "+*-":
            if sign in act:
                hand, page = (int(part) for part in act.split(sign))
                if sign == "-":
                    latches.let(hand, page)
                else:
                    latches.take(hand, page, alone=sign == "*")
    return latches


class TakeTest(unittest.TestCase):
    def test_nobody_holds_it(self):
        latches = Latches()
        self.assertIs(latches.take(0, 5), True)
        self.assertIs(latches.take(0, 6, alone=True), True)
        self.assertIs(latches.take(0, 7, alone=False), True)
        self.assertEqual(latches.held(0), ((5, False), (6, True), (7, False)))
        self.assertEqual(latches.holders(5), ((0, False),))
        self.assertEqual(latches.holders(6), ((0, True),))
        self.assertEqual((latches.queue(5), latches.holders(8), latches.queue(8)), ((), (), ()))
        self.assertIsNone(latches.awaited(0))

    def test_shared_beside_shared(self):
        latches = Latches()
        self.assertEqual([latches.take(hand, 5) for hand in (7, 3, 60, 0)], [True] * 4)
        self.assertEqual(latches.holders(5), ((0, False), (3, False), (7, False), (60, False)))
        self.assertEqual(len(latches), 4)

    def test_alone_behind_shared_and_shared_behind_alone(self):
        latches = latches_of("0+5", "1+5")
        self.assertIs(latches.take(2, 5, alone=True), False)
        self.assertEqual(latches.awaited(2), 5)
        # Behind one that waits nobody holds at once, not even beside other shared ones.
        self.assertIs(latches.take(3, 5), False)
        self.assertEqual(latches.queue(5), ((2, True), (3, False)))
        self.assertEqual(latches.holders(5), ((0, False), (1, False)))
        latches = latches_of("4*5")
        self.assertIs(latches.take(3, 5), False)
        self.assertIs(latches.take(2, 5), False)
        self.assertIs(latches.take(1, 5, alone=True), False)
        self.assertEqual(latches.queue(5), ((3, False), (2, False), (1, True)))
        self.assertEqual([latches.awaited(hand) for hand in range(5)], [None, 5, 5, 5, None])
        self.assertEqual([latches.held(hand) for hand in range(5)], [(), (), (), (), ((5, True),)])

    def test_the_bounds_of_hands_and_pages(self):
        latches = latches_of("0+0", "60*1000000", "0*1000000", "60*0")
        self.assertEqual(latches.holders(0), ((0, False),))
        self.assertEqual(latches.holders(10 ** 6), ((60, True),))
        self.assertEqual((latches.awaited(0), latches.awaited(60)), (10 ** 6, 0))
        self.assertEqual(sorted(latches.ring()), [0, 60])


class LetTest(unittest.TestCase):
    def test_given_to_none(self):
        latches = latches_of("0+5", "1+5", "2*5")
        self.assertEqual(latches.let(0, 5), ())
        self.assertEqual(latches.holders(5), ((1, False),))
        self.assertEqual(latches.queue(5), ((2, True),))
        latches = latches_of("0*5")
        self.assertEqual(latches.let(0, 5), ())
        self.assertEqual((latches.holders(5), latches.held(0), len(latches)), ((), (), 0))

    def test_given_to_one(self):
        latches = latches_of("0+5", "1*5", "2+5", "3+5")
        self.assertEqual(latches.let(0, 5), ((1, True),))
        self.assertEqual(latches.holders(5), ((1, True),))
        self.assertEqual(latches.queue(5), ((2, False), (3, False)))
        self.assertIsNone(latches.awaited(1))
        self.assertEqual(latches.held(1), ((5, True),))

    def test_given_to_several_in_the_order_of_the_queue(self):
        latches = latches_of("0*5", "9+5", "2+5", "4+5", "1*5", "3+5")
        self.assertEqual(latches.let(0, 5), ((9, False), (2, False), (4, False)))
        self.assertEqual(latches.holders(5), ((2, False), (4, False), (9, False)))
        self.assertEqual(latches.queue(5), ((1, True), (3, False)))
        self.assertEqual((latches.let(9, 5), latches.let(4, 5)), ((), ()))
        self.assertEqual(latches.let(2, 5), ((1, True),))
        self.assertEqual(latches.let(1, 5), ((3, False),))

    def test_given_shared_beside_a_shared_holder(self):
        # The first in the queue goes alone, so a shared one behind it waits till it is through.
        latches = latches_of("0+5", "1+5", "2*5", "3+5")
        latches.let(0, 5)
        self.assertEqual(latches.let(1, 5), ((2, True),))
        self.assertEqual(latches.let(2, 5), ((3, False),))

    def test_other_pages_are_left_alone(self):
        latches = latches_of("0*5", "0*6", "1+6", "2+5")
        self.assertEqual(latches.let(0, 5), ((2, False),))
        self.assertEqual((latches.holders(6), latches.queue(6)), (((0, True),), ((1, False),)))

    def test_taken_again(self):
        latches = latches_of("0*5", "1*5", "0-5")
        self.assertIs(latches.take(0, 5), False)
        self.assertEqual(latches.let(1, 5), ((0, False),))
        self.assertEqual(latches.held(0), ((5, False),))


class LengthTest(unittest.TestCase):
    def test_one_for_each_holder(self):
        self.assertEqual(len(Latches()), 0)
        self.assertEqual(len(latches_of("0+5", "1+5", "0*6", "2*5", "3+5")), 3)
        self.assertEqual(len(latches_of("0*5", "1+5", "2+5", "0-5")), 2)

    def test_truth(self):
        self.assertIs(bool(Latches()), False)
        self.assertIs(bool(latches_of("0+5")), True)
        self.assertIs(bool(latches_of("0+5", "0-5")), False)


class RingTest(unittest.TestCase):
    def test_none(self):
        for acts in ((), ("0*5",), ("0*5", "1*5"), ("0*5", "1*5", "2*5"), ("0*5", "1*6", "0*6"),
                     ("0+5", "1+6", "0+6", "1+5")):
            self.assertIsNone(latches_of(*acts).ring(), acts)

    def test_of_two(self):
        ring = latches_of("0*5", "1*6", "0*6", "1*5").ring()
        self.assertIn(ring, ((0, 1), (1, 0)))
        self.assertIn(latches_of("7+5", "3+6", "7*6", "3*5").ring(), ((3, 7), (7, 3)))
        self.assertIn(latches_of("7+5", "3*6", "7+6", "3*5").ring(), ((3, 7), (7, 3)))

    def test_of_many(self):
        for many in (3, 4, 10, 61):
            latches = Latches()
            for hand in range(many):
                latches.take(hand, hand, alone=True)
            for hand in range(many - 1):
                latches.take(hand, hand + 1, alone=True)
            self.assertIsNone(latches.ring())
            latches.take(many - 1, 0)
            ring = latches.ring()
            at = ring.index(0)
            self.assertEqual(ring[at:] + ring[:at], tuple(range(many)))

    def test_through_the_queue_alone(self):
        # 2 waits for page 5 alone behind 1, which waits there shared for nobody but the one ahead of it.
        latches = latches_of("0+5", "2*6", "1*5", "2+5", "0+6")
        ring = latches.ring()
        at = ring.index(0)
        # 0 waits for 2, the holder of 6; 2 waits for 1, ahead of it in the queue alone; 1 waits for 0.
        self.assertEqual(ring[at:] + ring[:at], (0, 2, 1))

    def test_not_where_shared_ones_wait_behind_one_another(self):
        self.assertIsNone(latches_of("0*5", "1*6", "2*7", "1+5", "2+5").ring())
        # A shared one does not wait for the shared holder beside which an alone one waits.
        latches = latches_of("0+5", "1*6", "9*5", "1+5")
        self.assertIsNone(latches.ring())
        latches.take(0, 6)
        ring = latches.ring()
        at = ring.index(0)
        self.assertEqual(ring[at:] + ring[:at], (0, 1, 9))
        latches = latches_of("0*9", "1*6", "2+5", "3*5", "1+5", "0+5", "2+9")
        # 2 waits for 0, that for 3 but not for 1, which waits shared ahead of it; 3 waits for 2.
        ring = latches.ring()
        at = ring.index(0)
        self.assertEqual(ring[at:] + ring[:at], (0, 3, 2))


class EqualTest(unittest.TestCase):
    def same(self, one, other, equal):
        self.assertIs(one == other, equal)
        self.assertIs(other == one, equal)
        self.assertIs(one != other, not equal)

    def test_alike(self):
        self.same(Latches(), Latches(), True)
        self.same(latches_of("0+5", "1*6"), latches_of("1*6", "0+5"), True)
        self.same(latches_of("0+5", "1+5", "2*5"), latches_of("1+5", "0+5", "2*5"), True)

    def test_by_another_history(self):
        self.same(latches_of("0+5", "0-5"), Latches(), True)
        self.same(latches_of("0*5", "1+5", "0-5", "1-5"), Latches(), True)
        self.same(latches_of("0*5", "1+5", "2+5", "0-5"), latches_of("2+5", "1+5"), True)
        self.same(latches_of("0*5", "1*5", "2+5", "0-5"), latches_of("1*5", "2+5"), True)
        self.same(latches_of("3+7", "3-7", "1*5", "2+5"), latches_of("1*5", "2+5"), True)

    def test_each_part(self):
        base = ("0+5", "1+5", "2*5", "3*5")
        one = latches_of(*base)
        for acts in (base[:3], base + ("4+6",), ("0+5", "1+5", "3*5", "2*5"), ("0+5", "1+5", "2*5", "3+5"),
                     ("0+6", "1+6", "2*6", "3*6"), ("0+5", "4+5", "2*5", "3*5"), ("0+5", "2*5", "3*5"), ()):
            self.same(one, latches_of(*acts), False)
        self.same(latches_of("0+5"), latches_of("0*5"), False)

    def test_never_equal_to_a_thing_of_another_kind(self):
        class Any:
            def __eq__(self, other):
                return True

        for latches in (Latches(), latches_of("0+5")):
            for thing in ANYTHING + (Latches, object()):
                self.same(latches, thing, False)
            self.assertIs(latches == Any(), False)

    def test_what_the_one_does_leaves_the_other(self):
        one, other = latches_of("0*5", "1+5"), latches_of("0*5", "1+5")
        one.let(0, 5)
        self.same(one, other, False)
        self.assertEqual(other.queue(5), ((1, False),))
        other.let(0, 5)
        self.same(one, other, True)

    def test_a_copy_goes_on_by_itself(self):
        one = latches_of("0*5", "1+5", "2*6")
        copy = one.copied()
        self.same(one, copy, True)
        one.let(0, 5)
        copy.take(3, 6)
        self.assertEqual((copy.holders(5), copy.queue(5), copy.awaited(1)), (((0, True),), ((1, False),), 5))
        self.assertEqual((one.holders(5), one.queue(6), one.awaited(3)), (((1, False),), (), None))


class RefusalsTest(unittest.TestCase):
    def test_no_hand_and_no_page(self):
        latches = latches_of("0*5", "1+5")
        for thing in NO_HANDS:
            for page in (5, 6, thing, -1):
                with self.assertRaises(NoHand):
                    latches.take(thing, page)
                with self.assertRaises(NoHand):
                    latches.take(thing, page, alone=True)
                with self.assertRaises(NoHand):
                    latches.let(thing, page)
            with self.assertRaises(NoHand):
                latches.held(thing)
            with self.assertRaises(NoHand):
                latches.awaited(thing)
        for thing in NO_PAGES:
            for hand in (0, 1, 2):
                with self.assertRaises(NoPage):
                    latches.take(hand, thing)
                with self.assertRaises(NoPage):
                    latches.take(hand, thing, alone=True)
                with self.assertRaises(NoPage):
                    latches.let(hand, thing)
            with self.assertRaises(NoPage):
                latches.holders(thing)
            with self.assertRaises(NoPage):
                latches.queue(thing)
        self.assertEqual(latches, latches_of("0*5", "1+5"))

    def test_who_waits(self):
        latches = latches_of("0*5", "1*6", "1+5")
        for act in ((1, 7), (1, 5), (1, 6)):
            for alone in (False, True):
                with self.assertRaises(Waits):
                    latches.take(*act, alone=alone)
            with self.assertRaises(Waits):
                latches.let(*act)
        self.assertEqual(latches, latches_of("0*5", "1*6", "1+5"))
        self.assertEqual(latches.let(0, 5), ((1, False),))
        self.assertEqual(latches.let(1, 6), ())

    def test_who_holds_and_who_does_not(self):
        latches = latches_of("0*5", "1+6", "2+6", "3*6")
        for act in ((0, 5), (1, 6), (2, 6)):
            for alone in (False, True):
                with self.assertRaises(Holds):
                    latches.take(*act, alone=alone)
        for act in ((0, 6), (1, 5), (0, 7), (9, 5), (0, 0)):
            with self.assertRaises(HoldsNot):
                latches.let(*act)
        self.assertEqual(latches, latches_of("0*5", "1+6", "2+6", "3*6"))
        self.assertEqual(len(latches), 3)


class WholeTest(unittest.TestCase):
    def laid_beside(self, latches, model, hands, pages):
        for page in pages:
            self.assertEqual(latches.holders(page), tuple(model.holders(page)))
            self.assertEqual(latches.queue(page), tuple(model.queue(page)))
        for hand in hands:
            self.assertEqual(latches.held(hand), tuple(model.held(hand)))
            self.assertEqual(latches.awaited(hand), model.awaited(hand))
        self.assertEqual(len(latches), sum(len(model.holders(page)) for page in pages))
        ring = latches.ring()
        self.assertIs(ring is not None, model.stuck())
        self.assertTrue(ring is None or model.is_ring(ring))

    def test_against_a_second_table(self):
        draw = Drawn(41)
        rings = 0
        for turn in range(60):
            hands, pages = range(draw.randint(2, 6)), range(draw.randint(1, 5))
            latches, model = Latches(), LatchModel()
            for _ in range(40):
                hand, page, alone = draw.choice(hands), draw.choice(pages), draw.randint(0, 2) == 0
                holds = page in dict(model.held(hand))
                if model.awaited(hand) is not None:
                    with self.assertRaises(Waits):
                        latches.take(hand, page, alone=alone)
                elif not holds:
                    self.assertIs(latches.take(hand, page, alone=alone), model.take(hand, page, alone))
                elif draw.randint(0, 1):
                    self.assertEqual(latches.let(hand, page), tuple(model.let(hand, page)))
                else:
                    with self.assertRaises(Holds):
                        latches.take(hand, page, alone=alone)
                self.laid_beside(latches, model, hands, pages)
                rings += latches.ring() is not None
        self.assertGreater(rings, 100)
