import unittest

from latchgrove.errors import NoPlans, TooWide
from latchgrove.latches.ranks import ranks_for
from latchgrove.latches.stuck import shows_stuck, stuck_or_never
from latchgrove.latches.table import Latches
from tests.helpers import ANYTHING, NO_WHOLE, Drawn, outcome, plan_of, random_plans
from tests.model_latches import LatchModel

TWO = (plan_of("*1 *2 -1 -2"), plan_of("*2 *1 -2 -1"))
# Hands 0 and 1 share all they can: each waits behind one that waits alone for what the other holds.
FOUR = (plan_of("+1 +2 -1 -2"), plan_of("+2 +1 -2 -1"), plan_of("*1 -1"), plan_of("*2 -2"))
# Shared beside shared: only hand 2, waiting alone for page 1, keeps hand 1 from having it.
QUEUED = (plan_of("+1 +2 -2 -1"), plan_of("*2 +1 -1 -2"), plan_of("*1 -1"))
STILL = (plan_of("*1 *2 -2 -1"), plan_of("*1 +2 -1 -2"))
# What these can come to was counted by states_of below, which is the tests' own.
JUST_300 = (plan_of("+1 *0 -0 -1"), plan_of("+1 -1"), plan_of("*0 -0 +0 -0"), plan_of("*0 -0"))
JUST_301 = (plan_of("*0 -0"), plan_of("*0 -0 *0 -0 *0 -0 +0 -0"), plan_of("*0 -0 +0 -0 *0 -0"))
STUCK_301 = (plan_of("+2 *0 -0 +1 -1 -2"), plan_of("+0 +1 *2 -0 -1 -2"), plan_of("+1 +2 -1 +0 -0 -2"))


class Walk:
    """Plans under the tests' own latches; a state as [16] says: latches, queues, how far hands are."""

    def __init__(self, plans, weaving=()):
        self.plans, self.far, self.latches = plans, [0] * len(plans), LatchModel()
        for hand in weaving:
            self.step(hand)

    def can(self):
        return [hand for hand, plan in enumerate(self.plans)
                if self.far[hand] < len(plan) and self.latches.awaited(hand) is None]

    def step(self, hand):
        if hand not in self.can():
            return
        step = self.plans[hand][self.far[hand]]
        if step[0] == "take":
            self.far[hand] += self.latches.take(hand, step[1], step[2])
        else:
            for other, _ in [(hand, None)] + self.latches.let(hand, step[1]):
                self.far[other] += 1

    def state(self):
        pages = [page for page in sorted(self.latches.asked) if self.latches.asked[page]]
        return repr((self.far, [(page, self.latches.holders(page), self.latches.queue(page)) for page in pages]))


def states_of(plans, most=10 ** 4):
    """One weaving to each state that the plans can come to."""
    found = {Walk(plans).state(): ()}
    going = [()]
    while going and len(found) <= most:
        weaving = going.pop(0)
        for hand in Walk(plans, weaving).can():
            state = Walk(plans, weaving + (hand,)).state()
            if state not in found:
                found[state] = weaving + (hand,)
                going.append(weaving + (hand,))
    return found


class ToldTest(unittest.TestCase):
    def check(self, plans, word):
        told = stuck_or_never(plans)
        self.assertEqual(told[0], word)
        self.assertIs(shows_stuck(plans, told), True)
        found = states_of(plans)
        self.assertLessEqual(len(found), 300)
        rings = [weaving for weaving in found.values() if Walk(plans, weaving).latches.stuck()]
        if word == "stuck":
            self.stuck(plans, *told[1:])
            self.assertTrue(rings)
        else:
            self.never(plans, told[1], found)
            self.assertEqual(rings, [])
        return told

    def stuck(self, plans, weaving, ring):
        """By the program's own latches: each of the ring waits for the next."""
        self.assertTrue(all(type(hand) is int and 0 <= hand < len(plans) for hand in weaving + ring))
        latches, far = Latches(), [0] * len(plans)
        for hand in weaving:
            if far[hand] == len(plans[hand]) or latches.awaited(hand) is not None:
                continue
            step = plans[hand][far[hand]]
            if step[0] == "take":
                far[hand] += latches.take(hand, step[1], alone=step[2])
            else:
                for other in [hand] + [one for one, _ in latches.let(hand, step[1])]:
                    far[other] += 1
        self.assertGreaterEqual(len(ring), 2)
        self.assertEqual(len(set(ring)), len(ring))
        for one, other in zip(ring, ring[1:] + ring[:1]):
            page = latches.awaited(one)
            line = latches.queue(page)
            at = [hand for hand, _ in line].index(one)
            ahead = dict(latches.holders(page) + line[:at])
            self.assertIn(other, ahead)
            self.assertTrue(line[at][1] or ahead[other])

    def never(self, plans, weavings, found):
        self.assertEqual(weavings, tuple(sorted(set(weavings))))
        self.assertIn((), weavings)
        self.assertEqual({Walk(plans, weaving).state() for weaving in weavings}, set(found))

    def test_two_hands_that_stick(self):
        self.check(TWO, "stuck")
        self.check((plan_of("+1 *2 -1 -2"), plan_of("+2 *1 -2 -1")), "stuck")
        self.check((plan_of("+1 *1 -1")[:0], plan_of("*1 *2 -1 -2"), plan_of("+2 +1 -2 -1")), "stuck")

    def test_a_ring_of_four(self):
        word, weaving, ring = self.check(FOUR, "stuck")
        self.assertEqual(sorted(ring), [0, 1, 2, 3])

    def test_a_ring_that_a_queue_alone_makes(self):
        word, weaving, ring = self.check(QUEUED, "stuck")
        self.assertEqual(sorted(ring), [0, 1, 2])
        self.check(QUEUED[:2], "never")
        self.check(QUEUED[:2] + (plan_of("+1 -1"),), "never")

    def test_plans_that_never_stick(self):
        self.check(((),), "never")
        self.assertEqual(stuck_or_never(((), (), ())), ("never", ((),)))
        self.check((plan_of("*1 -1"),), "never")
        self.check(STILL, "never")
        self.check((plan_of("+1 +2 -1 -2"), plan_of("+2 +1 -2 -1")), "never")
        # There are no ranks of these, and yet they never stick: page 3 is held by all who could.
        plans = (plan_of("*3 *1 *2 -1 -2 -3"), plan_of("*3 *2 *1 -1 -2 -3"))
        self.assertEqual(ranks_for(plans)[0], "ring")
        self.check(plans, "never")

    def test_many_plans(self):
        draw = Drawn(61)
        seen = {"stuck": 0, "never": 0, "wide": 0}
        for turn in range(120):
            plans = random_plans(draw, draw.randint(2, 4), draw.randint(2, 4), draw.choice((4, 6, 8)))
            if len(states_of(plans, 301)) > 300:
                seen["wide"] += 1
                with self.assertRaises(TooWide):
                    stuck_or_never(plans)
                continue
            found = states_of(plans)
            rings = any(Walk(plans, weaving).latches.stuck() for weaving in found.values())
            word = "stuck" if rings else "never"
            seen[word] += 1
            self.check(plans, word)
        self.assertGreater(min(seen.values()), 5)

    def test_by_ranks_nothing_sticks(self):
        draw = Drawn(62)
        many = 0
        for turn in range(80):
            plans = random_plans(draw, draw.randint(2, 3), 4, 6, rising=True)
            told = outcome(stuck_or_never, plans)
            if told != ("raised", TooWide):
                many += 1
                self.assertEqual(told[1][0], "never")
        self.assertGreater(many, 40)


class WideTest(unittest.TestCase):
    def test_just_300_and_one_more(self):
        self.assertEqual(len(states_of(JUST_300)), 300)
        word, weavings = stuck_or_never(JUST_300)
        self.assertEqual((word, len(weavings)), ("never", 300))
        self.assertIs(shows_stuck(JUST_300, (word, weavings)), True)
        for plans in (JUST_301, STUCK_301):
            self.assertEqual(len(states_of(plans)), 301)
            with self.assertRaises(TooWide):
                stuck_or_never(plans)

    def test_pages_of_their_own(self):
        # Nobody waits, so there are as many states as the products of how far each can be.
        for lengths, many in (((4, 4, 2), 75), ((16, 16), 289), ((8, 10, 2), 297), ((2, 2, 2, 2), 81)):
            plans = tuple(plan_of(f"*{hand} -{hand} " * (length // 2)) for hand, length in enumerate(lengths))
            self.assertEqual(len(states_of(plans)), many)
            self.assertEqual(len(stuck_or_never(plans)[1]), many)

    def test_many_more(self):
        for plans in ((plan_of("*1 -1 " * 8),) * 4, tuple(plan_of(f"*{hand} -{hand} " * 8) for hand in range(4)),
                      tuple(plan_of(f"*{hand} *{(hand + 1) % 4} -{hand} -{(hand + 1) % 4}") for hand in range(4))):
            with self.assertRaises(TooWide):
                stuck_or_never(plans)

    def test_whatever_the_thing_is(self):
        for thing in ANYTHING + (("stuck", (), (0, 1)), ("never", ((),))):
            for plans in (JUST_301, STUCK_301):
                with self.assertRaises(TooWide):
                    shows_stuck(plans, thing)

    def test_no_plans_goes_ahead(self):
        for thing in ANYTHING + ((plan_of("+1"),), (), ((),) * 5, JUST_301 + (plan_of("+1"),), JUST_301 * 2):
            if thing != ((), ()):
                with self.assertRaises(NoPlans):
                    stuck_or_never(thing)
                for other in (thing, ("never", ((),))):
                    with self.assertRaises(NoPlans):
                        shows_stuck(thing, other)


class ShowsStuckTest(unittest.TestCase):
    def test_other_right_ones(self):
        for weaving in ((0, 1, 0, 1), (1, 0, 0, 1), (0, 1, 1, 0), (1, 0, 1, 0), (0, 1, 0, 0, 0, 1, 1, 0)):
            for ring in ((0, 1), (1, 0)):
                self.assertIs(shows_stuck(TWO, ("stuck", weaving, ring)), True)
        # A hand that waits does nothing, nor does one that is through.
        plans = TWO + (plan_of("*3 -3"), ())
        self.assertIs(shows_stuck(plans, ("stuck", (3, 2, 0, 2, 2, 1, 0, 0, 1), (0, 1))), True)
        self.assertIs(shows_stuck(plans, ("stuck", (0, 1, 0, 1) * 1000, (1, 0))), True)
        self.assertIs(shows_stuck(QUEUED, ("stuck", (0, 1, 2, 0, 1), (0, 1, 2))), True)
        for turn in range(3):
            ring = (0, 1, 2)[turn:] + (0, 1, 2)[:turn]
            self.assertIs(shows_stuck(QUEUED, ("stuck", (0, 1, 2, 1, 0), ring)), True)

    def test_stuck_with_one_thing_otherwise(self):
        for weaving in ((0, 1, 0), (1, 0, 1), (0, 0, 1, 1), (), (0, 1, 0, 2), (0, 1, 0, True), (False, 1, 0, 1),
                        (0, 1, 0, -1), (0, 1, 0, "1"), [0, 1, 0, 1], 0, None, ((0, 1, 0, 1),), (0, 1, 0, 1, 2),
                        (0, 1, 0, 1, None), (0, 1, 0, 1, ()), (0, 1, 0, 1, 10 ** 39), "0101"):
            self.assertIs(shows_stuck(TWO, ("stuck", weaving, (0, 1))), False, weaving)
        for ring in ((0,), (), (0, 0), (0, 1, 0), (0, 1, 0, 1), (1, 2), [0, 1], (False, 1), (0, True), (0, "1"), None,
                     (0, None), (0, [1]), 0, {0: 1}, (0, 1, 2), (60, 61), (-1, 0), ((0, 1),)):
            self.assertIs(shows_stuck(TWO, ("stuck", (0, 1, 0, 1), ring)), False, ring)
        for ring in ((0, 2, 1), (1, 0, 2), (0, 1), (1, 2), (2, 0), (0, 1, 2, 0)):
            self.assertIs(shows_stuck(QUEUED, ("stuck", (0, 1, 2, 1, 0), ring)), False, ring)
        right = ((0, 1, 0, 1), (0, 1))
        for thing in (("Stuck",) + right, ("never",) + right, ("stuck",) + right + (0,), ("stuck",) + right[:1],
                      ["stuck", *right], ("stuck", right), ("stuck",), right, ("stuck", right[1], right[0]),
                      (None,) + right):
            self.assertIs(shows_stuck(TWO, thing), False)
        self.assertIs(shows_stuck(TWO, ("stuck",) + right), True)
        for plans in (STILL, ((),), QUEUED[:2]):
            self.assertIs(shows_stuck(plans, ("stuck", right[0][:0], right[1])), False)
            self.assertIs(shows_stuck(plans, ("stuck", (0, 0), (0, 1))), False)

    def test_other_weavings_that_never_stick(self):
        plans = (plan_of("*1 -1"), plan_of("+1 -1"))
        right = stuck_or_never(plans)[1]
        # As many more as one likes, also such as come to a state again.
        for more in (((0, 0, 0), (1, 1, 1, 0, 1)), ((0, 0, 0, 0),), ((1, 1) * 2000,)):
            self.assertIs(shows_stuck(plans, ("never", tuple(sorted(right + more)))), True)
        found = states_of(plans)
        longest = {}
        draw = Drawn(63)
        for _ in range(300):
            weaving = tuple(draw.randint(0, 1) for _ in range(draw.randint(0, 7)))
            longest[Walk(plans, weaving).state()] = weaving
        self.assertEqual(set(longest), set(found))
        longest[Walk(plans).state()] = ()
        self.assertIs(shows_stuck(plans, ("never", tuple(sorted(longest.values())))), True)

    def test_never_with_one_thing_otherwise(self):
        for plans in (STILL, (plan_of("*1 -1"), plan_of("+1 -1")), (plan_of("*1 -1"),)):
            right = stuck_or_never(plans)[1]
            self.assertIs(shows_stuck(plans, ("never", right)), True)
            for at in range(len(right)):
                self.assertIs(shows_stuck(plans, ("never", right[:at] + right[at + 1:])), False)
            for weavings in (right[::-1], right + right[-1:], right[:1] + right, list(right), (), None, (None,) + right,
                             right + ((len(plans),),), right + ((0, True),), right + ((-1,),), right + (None,),
                             tuple(list(weaving) for weaving in right), right + (5,), dict.fromkeys(right),
                             right[:2] + ([0],) + right[2:], ((False,),) + right):
                self.assertIs(shows_stuck(plans, ("never", weavings)), False, weavings)
            for thing in (("never", right, ()), ("never",), ["never", right], ("stuck", right), ("Never", right), right,
                          ("never", right, right)):
                self.assertIs(shows_stuck(plans, thing), False)
        self.assertIs(shows_stuck(((), ()), ("never", ((),))), True)
        self.assertIs(shows_stuck(((), ()), ("never", ((), (0,)))), True)
        self.assertIs(shows_stuck(((), ()), ("never", ((0,),))), False)
        self.assertIs(shows_stuck(((), ()), ("never", ())), False)

    def test_never_of_plans_that_stick(self):
        found = states_of(TWO)
        self.assertIs(shows_stuck(TWO, ("never", tuple(sorted(found.values())))), False)
        still = [weaving for weaving in found.values() if not Walk(TWO, weaving).latches.stuck()]
        self.assertIs(shows_stuck(TWO, ("never", tuple(sorted(still)))), False)

    def test_of_anything(self):
        for plans in (TWO, STILL, ((),)):
            for thing in ANYTHING:
                self.assertIs(shows_stuck(plans, thing), False)
                for one in (thing, (thing,), ((), thing)):
                    right = plans == ((),) and one == ((),) and type(one[0]) is tuple
                    self.assertIs(shows_stuck(plans, ("never", one)), right, one)
                    for other in ANYTHING:
                        self.assertIs(shows_stuck(plans, ("stuck", one, other)), False)
        for thing in NO_WHOLE:
            self.assertIs(shows_stuck(TWO, ("stuck", (0, 1, 0, 1, thing), (0, 1))), False)
            self.assertIs(shows_stuck(TWO, ("stuck", (0, 1, 0, 1), (0, thing))), False)
