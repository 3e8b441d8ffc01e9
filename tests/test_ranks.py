import itertools
import unittest

from latchgrove.errors import NoPlans
from latchgrove.latches.ranks import are_plans, ranks_for, shows_ranks
from latchgrove.latches.table import Latches
from tests.helpers import ANYTHING, NO_WHOLE, Drawn, plan_of, random_plans

# Of these the last three let themselves be taken by no ranks.
STILL = ((), (plan_of("+1 -1"),), (plan_of("+1 *2 -2 -1"), plan_of("*1 +2 -1 -2")),
         (plan_of("*5 -5 *3 -3 *4 -4"),) * 2, (plan_of("*3 *2 *1 -1 -2 -3"), (), plan_of("*3 *1 -3 -1")))[1:]
RINGS = ((plan_of("+1 *2 -2 -1"), plan_of("*2 +1 -1 -2")), (plan_of("+1 +2 -1 -2 +2 +1 -1 -2"),),
         (plan_of("*1 *2 -1 -2"), plan_of("*2 *3 -3 -2"), plan_of("*3 *4 -3 -4"), plan_of("*4 *1 -1 -4")))


def pulls_in(plans):
    """Each (hand, held, taken), by what is held ahead of each place of a plan."""
    pulls = set()
    for hand, plan in enumerate(plans):
        for at, step in enumerate(plan):
            if step[0] == "take":
                for page in {one[1] for one in plan[:at]}:
                    many = {word: sum(one[:2] == (word, page) for one in plan[:at]) for word in ("take", "let")}
                    if many["take"] > many["let"]:
                        pulls.add((hand, page, step[1]))
    return pulls


def are_right_ranks(plans, pairs):
    pages = sorted({step[1] for plan in plans for step in plan})
    ranks = dict(pairs)
    return [page for page, _ in pairs] == pages and all(ranks[one] < ranks[two] for _, one, two in pulls_in(plans))


def is_right_ring(plans, triples):
    pulls = pulls_in(plans)
    return len(triples) > 1 and all(triple in pulls for triple in triples) and all(
        triples[at - 1][2] == triples[at][1] for at in range(len(triples)))


class ArePlansTest(unittest.TestCase):
    def test_plans(self):
        full = plan_of(" ".join(f"+{page}" for page in range(8)) + " " + " ".join(f"-{page}" for page in range(8)))
        self.assertEqual(len(full), 16)
        for plans in (((),), ((), ()), ((), (), (), ()), (full,), (full, full, full, full), (plan_of("+0 -0 *0 -0"),),
                      (plan_of("*60 +0 -60 -0"),), STILL[0], STILL[1], RINGS[0], RINGS[1], RINGS[2]):
            self.assertIs(are_plans(plans), True)

    def test_each_word_broken(self):
        full = plan_of("+1 -1 " * 8)
        good = plan_of("+1 *2 -1 -2")
        wrong = [(), ((),) * 5, (good,) * 5, (full + plan_of("+1 -1"),), good, [good], (list(good),), (good, None),
                 (plan_of("+1"),), (plan_of("-1"),), (plan_of("+1 +1 -1"),), (plan_of("+1 +1 -1 -1"),),
                 (plan_of("+1 -1 -1"),), (plan_of("-1 +1"),), (plan_of("+1 -2 -1 +2"),), (plan_of("+1 -1 +2"),),
                 (plan_of("*1 +1 -1"),), (good, plan_of("+1")), ((), plan_of("-1"))]
        for step in (("take", 1), ("take", 1, True, True), ("take",), (), ("Take", 1, True), ("take", 1, 0),
                     ("take", 1, 1), ("take", 1, None), ["take", 1, True], ("take", True, True), ("take", "1", True),
                     (1, "take", True), None, "take"):
            wrong.append(((step, ("let", 1)),))
        for step in (("let", 1, True), ("let",), ("let", True), ["let", 1], ("Let", 1), ("let", "1"), "let", None):
            wrong.append(((("take", 1, True), step),))
        for page in NO_WHOLE + (-1, 61, 10 ** 39, -10 ** 39):
            wrong.append(((("take", page, True), ("let", page)),))
        for thing in ANYTHING:
            if type(thing) is not bool:
                wrong.append(((("take", 1, thing), ("let", 1)),))
            wrong.append(((("take", 1, True), ("let", 1), thing),))
        for thing in wrong:
            self.assertIs(are_plans(thing), False, thing)

    def test_of_anything(self):
        for thing in ANYTHING:
            self.assertIs(are_plans(thing), thing == ((), ()) and type(thing) is tuple)
            self.assertIs(are_plans((thing,)), thing == () and type(thing) is tuple)


class RanksForTest(unittest.TestCase):
    def test_ranks(self):
        self.assertEqual(ranks_for(((),)), ("ranks", ()))
        for plans in STILL:
            word, pairs = ranks_for(plans)
            self.assertEqual(word, "ranks")
            self.assertTrue(are_right_ranks(plans, pairs))
            self.assertTrue(all(type(rank) is int for _, rank in pairs))
        word, pairs = ranks_for((plan_of("+9 +4 -4 -9 +7 -7"), plan_of("+4 +1 -4 -1"), plan_of("+60 -60")))
        self.assertEqual([page for page, _ in pairs], [1, 4, 7, 9, 60])
        self.assertLess(dict(pairs)[9], dict(pairs)[4])
        self.assertLess(dict(pairs)[4], dict(pairs)[1])

    def test_a_ring(self):
        for plans in RINGS:
            word, triples = ranks_for(plans)
            self.assertEqual(word, "ring")
            self.assertTrue(is_right_ring(plans, triples), triples)
        # One hand by itself takes both ways about.
        self.assertEqual(sorted(ranks_for(RINGS[1])[1]), [(0, 1, 2), (0, 2, 1)])
        self.assertEqual(sorted(ranks_for(RINGS[2])[1]), [(0, 1, 2), (1, 2, 3), (2, 3, 4), (3, 4, 1)])

    def test_what_is_let_pulls_no_more(self):
        self.assertEqual(ranks_for((plan_of("*1 -1 *2 -2"), plan_of("*2 *1 -1 -2")))[0], "ranks")
        self.assertEqual(ranks_for((plan_of("*1 *3 -1 *2 -2 -3"), plan_of("*1 *2 -1 -2")))[0], "ranks")
        # Never all of it at once, and yet there are no ranks.
        word, triples = ranks_for((plan_of("*1 *3 -1 *2 -2 -3"), plan_of("*2 *1 -1 -2")))
        self.assertEqual((word, sorted(triples)), ("ring", [(0, 1, 3), (0, 3, 2), (1, 2, 1)]))

    def test_just_one_of_both(self):
        draw = Drawn(51)
        seen = {"ranks": 0, "ring": 0}
        for turn in range(300):
            plans = random_plans(draw, draw.randint(1, 4), draw.randint(2, 6), draw.randint(2, 16))
            self.assertTrue(are_plans(plans))
            told = ranks_for(plans)
            seen[told[0]] += 1
            self.assertIs(shows_ranks(plans, told), True)
            self.assertTrue((are_right_ranks if told[0] == "ranks" else is_right_ring)(plans, told[1]))
            pulls = pulls_in(plans)
            if told[0] == "ring":
                pages = sorted({step[1] for plan in plans for step in plan})
                for ranks in itertools.islice(itertools.permutations(range(len(pages))), 50):
                    self.assertIs(shows_ranks(plans, ("ranks", tuple(zip(pages, ranks)))), False)
            else:
                for pair in itertools.product(sorted(pulls), repeat=2):
                    self.assertIs(shows_ranks(plans, ("ring", pair)), False)
        self.assertGreater(min(seen.values()), 60)

    def test_refusals(self):
        for thing in ANYTHING:
            if thing != ((), ()):
                with self.assertRaises(NoPlans):
                    ranks_for(thing)
                for other in (thing, ("ranks", ())):
                    with self.assertRaises(NoPlans):
                        shows_ranks(thing, other)
        for plans in ((plan_of("+1"),), (), ((),) * 5, (plan_of("+1 -1 " * 9),)):
            with self.assertRaises(NoPlans):
                ranks_for(plans)
            with self.assertRaises(NoPlans):
                shows_ranks(plans, None)


class ShowsRanksTest(unittest.TestCase):
    plans = (plan_of("+1 *2 -2 -1"), plan_of("*2 +3 -3 -2 *5 -5"))
    stuck = (plan_of("+1 *2 +3 -3 -2 -1"), plan_of("*2 +1 -1 -2"), plan_of("*3 *1 -1 -3"))

    def test_other_right_ranks(self):
        for pairs in (((1, 0), (2, 1), (3, 2), (5, 0)), ((1, -5), (2, 0), (3, 10 ** 39), (5, -10 ** 39)),
                      ((1, 1), (2, 2), (3, 3), (5, 2))):
            self.assertIs(shows_ranks(self.plans, ("ranks", pairs)), True)
        self.assertIs(shows_ranks(((), ()), ("ranks", ())), True)

    def test_ranks_with_one_thing_otherwise(self):
        right = ((1, 0), (2, 1), (3, 2), (5, 0))
        for pairs in (right[:3], right[1:], right + ((6, 1),), ((0, 0),) + right, right[::-1], (right[0],) + right,
                      right[:2] + ((3, 1), (5, 0)), ((1, 1),) + right[1:], ((1, 2),) + right[1:], list(right),
                      (list(right[0]),) + right[1:], ((1, 0, 0),) + right[1:], ((1,),) + right[1:],
                      ((True, 0),) + right[1:], ((1, False),) + right[1:], ((1, None),) + right[1:],
                      ((1, "0"),) + right[1:], ((None, 0),) + right[1:], dict(right), (), None, right[0],
                      ((1, 0), (1, 0)) + right[1:], ((1, 0), (2, 1), (3, 2), (4, 0))):
            self.assertIs(shows_ranks(self.plans, ("ranks", pairs)), False, pairs)
        for thing in (("rank", right), ("ring", right), ["ranks", right], ("ranks",), ("ranks", right, 0), right,
                      ("ranks", right, ()), (right, "ranks"), ("Ranks", right)):
            self.assertIs(shows_ranks(self.plans, thing), False)
        self.assertIs(shows_ranks(self.plans, ("ranks", right)), True)

    def test_other_right_rings(self):
        one, two, three, back = (0, 1, 2), (0, 2, 3), (1, 2, 1), (2, 3, 1)
        for ring in ((one, three), (three, one), (one, two, back), (two, back, one), (back, one, two),
                     ((0, 1, 3), back), (one, three, one, two, back), (one, three, one, three)):
            self.assertIs(shows_ranks(self.stuck, ("ring", ring)), True, ring)

    def test_rings_with_one_thing_otherwise(self):
        right = ((0, 1, 2), (1, 2, 1))
        for ring in (right[:1], (), ((0, 1, 2), (0, 2, 1)), ((1, 1, 2), (1, 2, 1)), ((0, 1, 2), (1, 2, 3)),
                     ((0, 1, 2), (2, 3, 1)), ((0, 2, 1), (1, 1, 2)), right + ((0, 1, 2),), list(right),
                     ([0, 1, 2], (1, 2, 1)), ((0, 1), (1, 2, 1)), ((0, 1, 2, 3), (1, 2, 1)), ((0, 1, 2), (True, 2, 1)),
                     ((False, 1, 2), (1, 2, 1)), ((0, True, 2), (1, 2, 1)), ((0, 1, 2), (1, 2, True)),
                     ((0, 1, 2), None), None, ((0, 1, 2), (3, 2, 1)), ((0, 1, 2), (4, 2, 1)), ((0, 1, 2), (-2, 2, 1)),
                     ((0, 1, 1), (0, 1, 1)), ((0, 1, [2]), (1, [2], 1)), "ring", dict()):
            self.assertIs(shows_ranks(self.stuck, ("ring", ring)), False, ring)
        for thing in (("rings", right), ("ranks", right), ["ring", right], ("ring",), ("ring", right, 0), right):
            self.assertIs(shows_ranks(self.stuck, thing), False)
        self.assertIs(shows_ranks(self.stuck, ("ring", right)), True)

    def test_of_anything(self):
        for plans in (self.plans, self.stuck, ((),)):
            for thing in ANYTHING:
                self.assertIs(shows_ranks(plans, thing), False)
                for word in ("ranks", "ring"):
                    for one in (thing, (thing,), (thing, thing)):
                        self.assertIs(shows_ranks(plans, (word, one)),
                                      plans == ((),) and word == "ranks" and one == () and type(one) is tuple)


class WholeTest(unittest.TestCase):
    def test_latches_taken_by_ranks_never_make_a_ring(self):
        draw = Drawn(52)
        waits = 0
        for turn in range(200):
            plans = random_plans(draw, 4, 5, 16, rising=True)
            self.assertEqual(ranks_for(plans)[0], "ranks")
            latches, far = Latches(), [0] * 4
            while any(far[hand] < len(plans[hand]) for hand in range(4)):
                can = [hand for hand in range(4) if far[hand] < len(plans[hand]) and latches.awaited(hand) is None]
                self.assertTrue(can)
                hand = draw.choice(can)
                step = plans[hand][far[hand]]
                if step[0] == "take":
                    if latches.take(hand, step[1], alone=step[2]):
                        far[hand] += 1
                    else:
                        waits += 1
                else:
                    far[hand] += 1
                    for other, _ in latches.let(hand, step[1]):
                        far[other] += 1
                self.assertIsNone(latches.ring())
            self.assertEqual(len(latches), 0)
        self.assertGreater(waits, 300)
