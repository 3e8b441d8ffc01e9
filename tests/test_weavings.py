import itertools
import unittest

from latchgrove.errors import NoPrograms, NoRule, NoTree, TooWide
from latchgrove.hands.hands import Hands
from latchgrove.hands.steps import COUPLED, HOPEFUL, LOOSE
from latchgrove.orders.weavings import all_weavings, ends_of, orders_of, shows_weavings
from latchgrove.pages.trees import empty, is_tree, pairs_of
from tests.helpers import ANYTHING, Drawn, outcome, random_deed, random_tree, tree_of
from tests.model import PlainMap
from tests.test_records import orders_of as orders_of_records

RULES = (COUPLED, HOPEFUL, LOOSE)
NONE = tree_of(3, 1, {1: ()})
ONE = tree_of(3, 1, {1: (10, 20)})
WIDE = tree_of(3, 9, {1: (0, 10, 20), 2: (30, 40), 3: (50, 60)}, {9: (1, 2, 3)})
FIND, PUT, DROP, SPAN = ("find", 20), ("put", 15, 5), ("drop", 60), ("span", 0, 70)
# How many unlike weavings these have was counted by walk below, which is the tests' own.
JUST_400 = (
    (ONE, ((("span", 5, 47), ("drop", 17)), (("put", 23, 0), ("put", 51, 2))), COUPLED),
    (WIDE, ((("put", 17, 7),), (("span", 18, 39), ("span", 37, 50), ("put", 15, 2))), LOOSE),
)
JUST_401 = (
    (WIDE, ((("drop", 1), ("put", 27, 2), ("span", 50, 57)), (("find", 10),)), COUPLED),
    (NONE, ((("find", 58), ("drop", 15)), (("drop", 12), ("find", 42))), HOPEFUL),
)
# By LOOSE the find is lost, or comes to a leaf that its key has left.
ASTRAY = ((WIDE, ((DROP,), (("find", 60),))), (WIDE, ((FIND,), (PUT,))), (WIDE, ((FIND,), (), (PUT, FIND))))


def behind(tree, programs, rule, weaving):
    hands = Hands(tree, programs, rule=rule)
    return hands if None not in hands.run(weaving) else None


def can(hands, programs):
    return [hand for hand in range(len(programs)) if hands.can_step(hand)]


def is_end(hands, programs):
    return all(hands.is_through(hand) for hand in range(len(programs)))


class Kinds:
    """Hands, each kept once by ==; whatever is equal has its tree and answers alike."""

    def __init__(self):
        self.kept, self.many = {}, 0

    def like(self, hands):
        return [one for one in self.kept.get(repr((hands.tree(), hands.answers())), []) if one == hands]

    def add(self, hands):
        if self.like(hands):
            return False
        self.kept.setdefault(repr((hands.tree(), hands.answers())), []).append(hands)
        self.many += 1
        return True


def walk(tree, programs, rule, most=402):
    """By the weavings themselves: one of each kind, with the Hands behind it."""
    kinds, found, going = Kinds(), [], [()]
    kinds.add(Hands(tree, programs, rule=rule))
    while going:
        weaving = going.pop()
        hands = behind(tree, programs, rule, weaving)
        found.append((weaving, hands))
        for hand in can(hands, programs):
            longer = weaving + (hand,)
            if kinds.add(behind(tree, programs, rule, longer)):
                going.append(longer)
        if kinds.many >= most:
            break
    return found, kinds.many


def has_order(tree, hands):
    return orders_of_records(pairs_of(tree), tuple(row[1:] for row in hands.history())) != []


def is_right(test, tree, programs, rule, told):
    """Word by word what [24] says of what is told."""
    if told[0] == "astray":
        hands = behind(tree, programs, rule, told[1])
        test.assertTrue(is_end(hands, programs))
        test.assertFalse(has_order(tree, hands))
        return
    test.assertEqual(told[0], "whole")
    test.assertEqual(told, ("whole", tuple(sorted(set(told[1])))))
    test.assertEqual(told[1][0], ())
    kinds = Kinds()
    for weaving in told[1]:
        kinds.add(behind(tree, programs, rule, weaving))
    for weaving in told[1]:
        hands = behind(tree, programs, rule, weaving)
        if is_end(hands, programs):
            test.assertTrue(has_order(tree, hands))
        for hand in can(hands, programs):
            test.assertTrue(kinds.like(behind(tree, programs, rule, weaving + (hand,))))


def small_programs(draw, hands, most, greatest=60):
    rows = [[] for _ in range(hands)]
    for _ in range(draw.randint(0, most)):
        rows[draw.randint(0, hands - 1)].append(random_deed(draw, greatest, ("find", "put", "drop", "span")))
    return tuple(tuple(row) for row in rows)


def by_orders(tree, programs):
    """The answers of all orders of the deeds, each hand's in turn, each order by itself."""
    found = {}
    hands = [hand for hand, row in enumerate(programs) for _ in row]
    for order in set(itertools.permutations(hands)):
        plain, answers = PlainMap(pairs_of(tree)), [[] for _ in programs]
        for hand in order:
            answers[hand].append(plain.do(programs[hand][len(answers[hand])]))
        end = tuple(tuple(row) for row in answers)
        found[repr(end)] = end
    return tuple(found[text] for text in sorted(found))


class AllWeavingsTest(unittest.TestCase):
    def check(self, tree, programs, rule):
        told = all_weavings(tree, programs, rule=rule)
        self.assertEqual(all_weavings(tree, programs, rule=rule), told)
        self.assertIs(shows_weavings(tree, programs, told, rule=rule), True)
        is_right(self, tree, programs, rule, told)
        if rule != LOOSE:
            self.assertEqual(told[0], "whole")
        return told

    def test_no_deeds_at_all(self):
        for rule in RULES:
            for many in (1, 2, 3):
                self.assertEqual(self.check(WIDE, ((),) * many, rule), ("whole", ((),)))

    def test_one_hand(self):
        for rule in RULES:
            for deed in (FIND, PUT, DROP, SPAN):
                told = self.check(WIDE, ((deed,),), rule)
                hands = Hands(WIDE, ((deed,),), rule=rule)
                steps = 0
                while hands.step(0) is not None:
                    steps += 1
                self.assertEqual(told, ("whole", tuple((0,) * many for many in range(steps + 1))))
        self.assertEqual(self.check(ONE, ((FIND,),), COUPLED), ("whole", tuple((0,) * many for many in range(6))))

    def test_two_hands_and_three(self):
        draw = Drawn(101)
        seen = {"whole": 0, "astray": 0}
        for turn in range(45):
            rule, tree = RULES[turn % 3], draw.choice((NONE, ONE, WIDE))
            programs = small_programs(draw, draw.randint(2, 3), 2)
            try:
                seen[self.check(tree, programs, rule)[0]] += 1
            except TooWide:
                self.assertGreater(walk(tree, programs, rule)[1], 400)
        self.assertGreater(seen["whole"], 30)

    def test_trees_of_any_room_and_height(self):
        draw = Drawn(102)
        for turn in range(12):
            tree = random_tree(draw, 3 + turn % 6, 1 + turn % 3, 2000)
            for rule in RULES:
                told = outcome(all_weavings, tree, small_programs(draw, 2, 2, 2000), rule=rule)
                self.assertIn(told[1] if told[0] == "raised" else told[1][0], (TooWide, "whole", "astray"))
            self.check(tree, ((random_deed(draw, 2000, ("put", "drop")),), (("find", 5),))[:1 + turn % 2], COUPLED)

    def test_by_coupled_where_no_rule_is_said(self):
        programs = ((FIND,), (PUT,))
        self.assertEqual(all_weavings(WIDE, programs), all_weavings(WIDE, programs, rule=COUPLED))
        told = all_weavings(WIDE, programs, rule=HOPEFUL)
        self.assertNotEqual(all_weavings(WIDE, programs), told)
        self.assertIs(shows_weavings(WIDE, programs, told), False)
        self.assertIs(shows_weavings(WIDE, programs, told, rule=HOPEFUL), True)
        self.assertEqual(ends_of(WIDE, programs), ends_of(WIDE, programs, rule=COUPLED))

    def test_each_kind_once_or_more(self):
        for rule in (COUPLED, HOPEFUL):
            for programs in (((FIND,), (PUT,)), ((DROP,), (SPAN,)), ((FIND,), (FIND,), (FIND,))[:2]):
                found, many = walk(WIDE, programs, rule)
                self.assertGreaterEqual(len(self.check(WIDE, programs, rule)[1]), many)
                self.assertIs(shows_weavings(WIDE, programs, ("whole", tuple(sorted(row for row, _ in found))),
                                             rule=rule), True)

    def test_astray(self):
        for tree, programs in ASTRAY:
            told = self.check(tree, programs, LOOSE)
            self.assertEqual(told[0], "astray")
            for rule in (COUPLED, HOPEFUL):
                self.assertEqual(self.check(tree, programs, rule)[0], "whole")
                self.assertIs(shows_weavings(tree, programs, told, rule=rule), False)
        # Loose programs that can't go astray: there are no puts and drops beside the finds.
        self.assertEqual(self.check(WIDE, ((FIND,), (FIND,)), LOOSE)[0], "whole")
        self.assertEqual(self.check(ONE, ((FIND,), (("put", 10, 5),)), LOOSE)[0], "whole")

    def test_just_400_and_401(self):
        for tree, programs, rule in JUST_400:
            self.assertEqual(walk(tree, programs, rule)[1], 400)
            told = all_weavings(tree, programs, rule=rule)
            self.assertIs(shows_weavings(tree, programs, told, rule=rule), True)
            self.assertTrue(told[0] == "astray" or len(told[1]) >= 400)
            self.assertTrue(ends_of(tree, programs, rule=rule))
        for tree, programs, rule in JUST_401:
            self.assertGreater(walk(tree, programs, rule)[1], 400)
            for thing in ANYTHING + (("whole", ((),)), ("astray", ())):
                with self.assertRaises(TooWide):
                    shows_weavings(tree, programs, thing, rule=rule)
            with self.assertRaises(TooWide):
                all_weavings(tree, programs, rule=rule)
            with self.assertRaises(TooWide):
                ends_of(tree, programs, rule=rule)
            self.assertEqual(orders_of(tree, programs), by_orders(tree, programs))

    def test_too_wide_goes_ahead_of_astray(self):
        programs = ((("find", 60),), (DROP,), (FIND, FIND))
        self.assertGreater(walk(WIDE, programs, LOOSE)[1], 400)
        with self.assertRaises(TooWide):
            all_weavings(WIDE, programs, rule=LOOSE)


class ShowsWeavingsTest(unittest.TestCase):
    def test_other_right_ones(self):
        draw = Drawn(103)
        for programs in (((FIND,), (FIND,)), ((FIND,), (PUT,)), ((SPAN,), (FIND,))):
            told = all_weavings(ONE, programs)[1]
            more = 0
            for weaving in told:
                # A weaving in the place of a like one, and beside it.
                for _ in range(5):
                    other = list(weaving)
                    draw.shuffle(other)
                    other = tuple(other)
                    hands = behind(ONE, programs, COUPLED, other)
                    if other in told or hands is None:
                        continue
                    alike = hands == behind(ONE, programs, COUPLED, weaving)
                    instead = tuple(sorted([row for row in told if row != weaving] + [other]))
                    self.assertIs(shows_weavings(ONE, programs, ("whole", instead)), alike)
                    self.assertIs(shows_weavings(ONE, programs, ("whole", tuple(sorted(told + (other,))))), True)
                    more += alike
            self.assertGreater(more, 5)

    def test_with_one_thing_otherwise(self):
        for tree, programs, rule in ((ONE, ((FIND,), (PUT,)), COUPLED), (ONE, ((), (DROP,)), HOPEFUL),
                                     (WIDE, ((FIND,),), LOOSE), (ONE, ((), ()), COUPLED)):
            told = all_weavings(tree, programs, rule=rule)[1]
            self.assertIs(shows_weavings(tree, programs, ("whole", told), rule=rule), True)
            last = told[-1]
            wrong = [told[:at] + told[at + 1:] for at in range(len(told))]
            wrong += [told[:at + 1] + told[at:] for at in range(len(told))]
            wrong += [told[:at] + (list(told[at]),) + told[at + 1:] for at in range(len(told))]
            wrong += [list(told), told + (last,), (), None, {}, told + (None,), told + (7,), told + ("",), dict.fromkeys(told),
                      told + ((last,),), told + ((None,),), told + (last + (len(programs),),), told + (last + (-1,),),
                      # Behind the last one nobody can step.
                      told + (last + (0,),), told + ((9,),), ((True,),) + told[1:]]
            wrong += [told[::-1], told[1:] + told[:1]] if len(told) > 1 else []
            wrong += [tuple(tuple(hand == 1 for hand in row) for row in told)] if len(told) > 1 else []
            for thing in wrong:
                self.assertIs(shows_weavings(tree, programs, ("whole", thing), rule=rule), False, thing)
            for thing in (("Whole", told), ("astray", told), ("whole",), ("whole", told, ()), ["whole", told], told,
                          (told, "whole"), (None, told), ("astray", last), ("astray", ()), (b"whole", told)):
                self.assertIs(shows_weavings(tree, programs, thing, rule=rule), False)

    def test_a_hand_that_cannot_step(self):
        programs = ((PUT,), (FIND,))
        told = all_weavings(ONE, programs)[1]
        # Hand 1 waits behind (0, 1), which a weaving by [24] doesn't pass over.
        self.assertIn((0, 1), told)
        self.assertIs(shows_weavings(ONE, programs, ("whole", tuple(sorted(told + ((0, 1, 1),))))), False)
        self.assertIs(shows_weavings(ONE, programs, ("whole", tuple(sorted(told + ((0, 1, 1, 0),))))), False)

    def test_astray_with_one_thing_otherwise(self):
        for tree, programs in ASTRAY:
            weaving = all_weavings(tree, programs, rule=LOOSE)[1]
            self.assertIs(shows_weavings(tree, programs, ("astray", weaving), rule=LOOSE), True)
            # All are through behind it, and their records have an order.
            whole = all_weavings(tree, programs)[1]
            ends = [row for row in walk(tree, programs, LOOSE)[0] if is_end(row[1], programs)]
            for row, hands in ends:
                self.assertIs(shows_weavings(tree, programs, ("astray", row), rule=LOOSE), not has_order(tree, hands))
            self.assertEqual({has_order(tree, hands) for _, hands in ends}, {True, False})
            wrong = [weaving[:many] for many in range(len(weaving))] + [weaving + (hand,) for hand in (0, 1, 2, -1)]
            wrong += [list(weaving), (weaving,), None, weaving[0], "".join(map(str, weaving)), (None,) + weaving[1:],
                      tuple(hand == 1 for hand in weaving), tuple(1 - hand if hand < 2 else hand for hand in weaving)]
            for thing in wrong[:-1]:
                self.assertIs(shows_weavings(tree, programs, ("astray", thing), rule=LOOSE), False, thing)
            for thing in (("whole", weaving), ["astray", weaving], ("astray",), ("astray", weaving, ()), weaving,
                          ("Astray", weaving), ("whole", (weaving,)), ("whole", ((), weaving)), ("whole", whole)):
                self.assertIs(shows_weavings(tree, programs, thing, rule=LOOSE), False)
            # One of each kind, all of them right but for what they come to.
            rows = tuple(sorted(row for row, _ in walk(tree, programs, LOOSE)[0]))
            self.assertIs(shows_weavings(tree, programs, ("whole", rows), rule=LOOSE), False)

    def test_of_anything(self):
        for tree, programs, rule in ((ONE, ((FIND,),), COUPLED), (ONE, ((), (), ()), HOPEFUL), (*ASTRAY[0], LOOSE)):
            for thing in ANYTHING:
                self.assertIs(shows_weavings(tree, programs, thing, rule=rule), False)
                for one in (thing, (thing,), ((), thing), ((thing,),)):
                    right = programs == ((), (), ()) and repr(one) == "((),)"
                    self.assertIs(shows_weavings(tree, programs, ("whole", one), rule=rule), right)
                    self.assertIs(shows_weavings(tree, programs, ("astray", one), rule=rule), False)


class EndsTest(unittest.TestCase):
    def test_against_ends_gone_through(self):
        draw = Drawn(104)
        lost = 0
        for turn in range(36):
            rule, tree = RULES[turn % 3], draw.choice((ONE, WIDE))
            programs = small_programs(draw, draw.randint(1, 3), 2)
            if turn % 3 == 2:
                programs = draw.choice(ASTRAY)[1]
            found, many = walk(tree, programs, rule)
            if many > 400:
                continue
            ends = {repr(hands.answers()): hands.answers() for _, hands in found if is_end(hands, programs)}
            told = ends_of(tree, programs, rule=rule)
            self.assertEqual(told, tuple(ends[text] for text in sorted(ends)))
            orders = orders_of(tree, programs)
            if rule != LOOSE:
                self.assertEqual(told, orders)
            else:
                self.assertTrue(set(map(repr, orders)) <= set(map(repr, told)))
                lost += "lost" in repr(told)
        self.assertGreater(lost, 0)

    def test_ends_that_no_order_gives(self):
        tree, programs = ASTRAY[0]
        self.assertEqual(ends_of(tree, programs, rule=LOOSE), (((60,), ("lost",)), ((60,), (60,)), ((60,), (None,))))
        self.assertEqual(orders_of(tree, programs), (((60,), (60,)), ((60,), (None,))))
        for rule in (COUPLED, HOPEFUL):
            self.assertEqual(ends_of(tree, programs, rule=rule), orders_of(tree, programs))

    def test_rising_by_repr(self):
        # 10 stands ahead of 9, and a text ahead of a number.
        tree = tree_of(3, 1, {1: ()})
        programs = ((("put", 1, 9),), (("put", 1, 10),), (("find", 1),))
        told = orders_of(tree, programs)
        self.assertEqual(told, (((10,), (None,), (10,)), ((10,), (None,), (9,)), ((10,), (None,), (None,)),
                                ((None,), (9,), (10,)), ((None,), (9,), (9,)), ((None,), (9,), (None,))))
        self.assertEqual([repr(one) for one in told], sorted([repr(one) for one in told]))
        self.assertEqual(orders_of(tree, ((), ())), (((), ()),))
        for rule in RULES:
            self.assertEqual(ends_of(tree, ((), ()), rule=rule), (((), ()),))
            self.assertEqual(ends_of(tree, ((("put", 1, 9),), (("put", 1, 10),)), rule=rule),
                             (((10,), (None,)), ((None,), (9,))))

    def test_orders_of_many_deeds(self):
        draw = Drawn(105)
        for turn in range(60):
            tree = random_tree(draw, draw.randint(3, 8), draw.randint(1, 3), 2000)
            programs = small_programs(draw, draw.randint(1, 3), 4, draw.choice((3, 2000)))
            self.assertEqual(orders_of(tree, programs), by_orders(tree, programs))
        # Twelve orders, all unlike: never too wide.
        programs = ((("put", 5, 1), ("put", 5, 2)), (("put", 5, 3),), (("put", 5, 4),))
        self.assertEqual(len(orders_of(WIDE, programs)), 12)
        with self.assertRaises(TooWide):
            ends_of(WIDE, programs)


class RefusalsTest(unittest.TestCase):
    def calls(self, tree, programs, rule=COUPLED):
        """What each of the functions makes of these."""
        told = [outcome(all_weavings, tree, programs, rule=rule), outcome(ends_of, tree, programs, rule=rule)]
        told += [outcome(shows_weavings, tree, programs, thing, rule=rule) for thing in (None, ("whole", ((),)), programs)]
        return told if rule != COUPLED else told + [outcome(orders_of, tree, programs)]

    def refused(self, told, error):
        self.assertEqual(set(told), {("raised", error)})

    def test_programs_that_are_too_great(self):
        four, five = (FIND,) * 4, (FIND,) * 5
        for programs in (((),) * 4, ((FIND,),) * 4, (five,), (four, (PUT,)), ((FIND, PUT), (FIND, PUT), (FIND,)), ((),) * 6,
                         (((), ) * 3 + ((FIND,),)), ((("walk", 0, 70),),), ((FIND,), (("walk", 0, 70), PUT)), (five,) * 6):
            for rule in RULES + ("other", None):
                self.refused(self.calls(WIDE, programs, rule), NoPrograms)
        for programs in ((four,), ((), (), four), ((FIND, PUT), (FIND,), (PUT,))):
            self.assertEqual(outcome(orders_of, WIDE, programs)[0], "told")
            self.assertNotIn(("raised", NoPrograms), self.calls(WIDE, programs))
        self.assertEqual(all_weavings(WIDE, (four,))[0], "whole")
        self.assertEqual(all_weavings(WIDE, ((), four, ()), rule=LOOSE)[0], "whole")

    def test_no_tree_then_no_programs_then_no_rule(self):
        good = ((FIND,),)
        for thing in ANYTHING:
            for programs in (good, thing, ((),) * 4):
                self.refused(self.calls(thing, programs), NoTree)
                self.refused(self.calls(thing, programs, "other"), NoTree)
            if repr(thing) != "((), ())":
                self.refused(self.calls(empty(), thing), NoPrograms)
                self.refused(self.calls(empty(), thing, thing), NoPrograms)
            self.refused(self.calls(empty(), good, thing), NoRule)
            # A rule that is none goes ahead of what is too wide, too.
            self.refused(self.calls(*JUST_401[0][:2], thing), NoRule)
        for programs in ((), (((("find", -1),),)), [good], (list(good),), ((FIND, None),)):
            self.refused(self.calls(empty(), programs), NoPrograms)

    def test_what_is_handed_in_stays(self):
        tree, programs = ASTRAY[1]
        before = repr((tree, programs))
        for rule in RULES:
            all_weavings(tree, programs, rule=rule)
            ends_of(tree, programs, rule=rule)
        orders_of(tree, programs)
        thing = ("whole", [(), [0]])
        shows_weavings(tree, programs, thing)
        self.assertEqual(thing, ("whole", [(), [0]]))
        self.assertEqual(repr((tree, programs)), before)
        self.assertTrue(is_tree(tree))
