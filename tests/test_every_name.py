"""What [1] says of every name of the interface: told rows are tuples, what is handed in stays, refusals go in order."""

import unittest

from latchgrove.deeds.drops import drop, mate_of, safe_for_drop
from latchgrove.deeds.puts import planted, put, safe_for_put
from latchgrove.deeds.rows import done, is_deed, plainly, unlike
from latchgrove.disk.logs import fresh_disk, is_disk, rows_for
from latchgrove.disk.parts import cut_to, put_up, writes_up
from latchgrove.disk.up import up
from latchgrove.errors import (
    GroveError, NoDeed, NoDisk, NoEvent, NoHand, NoKey, NoNumber, NoPage, NoPairs, NoPlans, NoPrograms, NoRecords, NoRoom, NoRule,
    NoShape, NoStretch, NoText, NoTree, NoValue, TooMany)
from latchgrove.hands.hands import Hands
from latchgrove.hands.steps import COUPLED, HOPEFUL, LOOSE, are_programs
from latchgrove.latches.ranks import are_plans, ranks_for, shows_ranks
from latchgrove.latches.stuck import shows_stuck, stuck_or_never
from latchgrove.latches.table import Latches
from latchgrove.orders.records import order_of, shows_order
from latchgrove.orders.weavings import all_weavings, ends_of, orders_of, shows_weavings
from latchgrove.pages.looks import stretch, value_at, way_to
from latchgrove.pages.trees import by_rank, empty, height_of, is_tree, page_at, pairs_of
from latchgrove.shapes.counts import many_shapes, number_of, shape_at
from latchgrove.shapes.trees import shape_of, tree_by
from latchgrove.words.desk import Desk
from latchgrove.words.texts import programs_text, read_programs, read_tree, tree_text
from latchgrove.works.works import Works
from tests.helpers import ANYTHING, outcome

TREE = planted(((10, 1), (20, 2), (30, 3), (40, 4), (50, 5)), room=3)
DEEDS = (("put", 25, 6), ("find", 10), ("drop", 40), ("span", 0, 99), ("walk", 0, 99))
PAIRS = ((1, 5), (2, 6), (3, 7))
PLANS = ((("take", 1, True), ("take", 2, False), ("let", 1), ("let", 2)), (("take", 2, True), ("let", 2)))
SMALL = ((("find", 10),), (("put", 15, 5),))
RECORDS = ((("put", 1, 6), 5, 0, 2), (("find", 1), None, 3, None), (("span", 0, 9), ((1, 6), (2, 6), (3, 7)), 3, 9))
DISK = (3, 0, rows_for(TREE, drop(TREE, 10)[0]), fresh_disk(TREE)[3])
STEPS = (("step", 0),) * 3


# The objects' methods as functions: each call is of a new object, alike each time.
def take(hand, page):
    return Latches().take(hand, page, alone=True)


def let(hand, page):
    latches = Latches()
    latches.take(2, 3)
    return latches.let(hand, page)


def table(name):
    def of_latches(thing):
        latches = Latches()
        latches.take(2, 3, alone=True)
        latches.take(1, 3)
        return getattr(latches, name)(thing)
    return of_latches


def of_hands(name):
    def called(thing):
        return getattr(Hands(TREE, SMALL), name)(thing)
    return called


def with_hands(tree, programs, *, rule=COUPLED):
    hands = Hands(tree, programs, rule=rule)
    return hands.run((0,) * 30), hands.tree(), hands.points(), hands.history(), hands.answers(), hands.runs()


def with_works(tree, programs, *, rule=COUPLED):
    works = Works(tree, programs, rule=rule)
    told = works.run((("step", 0),) * 2 * (0 in works.can()) + (("cut", 0), ("fall", (1,))))
    return told, works.can(), works.tree(), works.disk(), works.history(), works.points(), works.runs()


def do(event):
    return Works(TREE, SMALL).do(event)


def run(event):
    return Works(TREE, SMALL).run(STEPS + (event,))


def say(row):
    return Desk().say(row)


def many(row):
    return Desk().many(("can", row))


# Each with what is right, and the class by which what is not right there is refused.
CASES = (
    (pairs_of, (TREE,), (NoTree,)), (height_of, (TREE,), (NoTree,)), (page_at, (TREE, 1), (NoTree, NoPage)), (by_rank, (TREE,), (NoTree,)),
    (way_to, (TREE, 5), (NoTree, NoKey)), (value_at, (TREE, 5), (NoTree, NoKey)), (stretch, (TREE, 5, 30), (NoTree, NoStretch, NoStretch)),
    (put, (TREE, 5, 6), (NoTree, NoKey, NoValue)), (safe_for_put, (TREE, 1, 5), (NoTree, NoPage, NoKey)), (planted, (PAIRS,), (NoPairs,)),
    (drop, (TREE, 10), (NoTree, NoKey)), (safe_for_drop, (TREE, 1, 5), (NoTree, NoPage, NoKey)), (mate_of, (TREE, 1), (NoTree, NoPage)),
    (done, (TREE, DEEDS), (NoTree, NoDeed)), (plainly, (PAIRS, DEEDS), (NoPairs, NoDeed)), (unlike, (TREE, TREE), (NoTree, NoTree)),
    (many_shapes, (30,), (TooMany,)), (shape_at, (30, 7), (TooMany, NoNumber)), (number_of, (((2, 3), (2, 2)),), (NoShape,)),
    (shape_of, (TREE,), (NoTree,)), (tree_by, (3, PAIRS), (NoShape, NoPairs)),
    (take, (2, 3), (NoHand, NoPage)), (let, (2, 3), (NoHand, NoPage)), (table("holders"), (3,), (NoPage,)),
    (table("queue"), (3,), (NoPage,)), (table("held"), (2,), (NoHand,)), (table("awaited"), (1,), (NoHand,)),
    (ranks_for, (PLANS,), (NoPlans,)), (shows_ranks, (PLANS, None), (NoPlans, None)),
    (stuck_or_never, (PLANS,), (NoPlans,)), (shows_stuck, (PLANS, None), (NoPlans, None)),
    (of_hands("step"), (1,), (NoHand,)), (of_hands("can_step"), (1,), (NoHand,)), (of_hands("is_through"), (0,), (NoHand,)),
    (with_hands, (TREE, SMALL), (NoTree, NoPrograms)),
    (order_of, (PAIRS, RECORDS), (NoPairs, NoRecords)), (shows_order, (PAIRS, RECORDS, None), (NoPairs, NoRecords, None)),
    (all_weavings, (TREE, SMALL), (NoTree, NoPrograms)), (shows_weavings, (TREE, SMALL, None), (NoTree, NoPrograms, None)),
    (ends_of, (TREE, SMALL), (NoTree, NoPrograms)), (orders_of, (TREE, SMALL), (NoTree, NoPrograms)),
    (rows_for, (TREE, drop(TREE, 10)[0]), (NoTree, NoTree)), (fresh_disk, (TREE,), (NoTree,)), (up, (DISK,), (NoDisk,)),
    (writes_up, (DISK,), (NoDisk,)), (put_up, (DISK, 2), (NoDisk, NoNumber)), (cut_to, (DISK, 0), (NoDisk, NoNumber)),
    (with_works, (TREE, SMALL), (NoTree, NoPrograms)), (do, (("step", 1),), (NoEvent,)), (run, (("step", 1),), (NoEvent,)),
    (tree_text, (TREE,), (NoTree,)), (read_tree, (tree_text(TREE),), (NoText,)), (programs_text, (SMALL,), (NoPrograms,)),
    (read_programs, (programs_text(SMALL),), (NoText,)), (say, ("tree",), (NoText,)), (many, ("map",), (NoText,)),
)
ROOMS = ((empty, ()), (planted, (PAIRS,)), (many_shapes, (9,)), (shape_at, (9, 0)), (number_of, ((2, 2),)), (tree_by, ((2, 2), PAIRS + ((9, 9),))))
RULES = ((with_hands, (TREE, SMALL)), (all_weavings, (TREE, SMALL)), (shows_weavings, (TREE, SMALL, None)), (ends_of, (TREE, SMALL)),
         (with_works, (TREE, SMALL)))
TRUTHS = (is_tree, is_deed, are_plans, are_programs, is_disk)


class EveryNameTest(unittest.TestCase):
    def only_tuples(self, thing):
        self.assertIn(type(thing), (tuple, int, str, bool, type(None)))
        for part in thing if type(thing) is tuple else ():
            self.only_tuples(part)

    def test_told_rows_are_tuples_and_told_again_alike(self):
        for function, right, _ in CASES:
            before = repr(right)
            told = function(*right)
            self.only_tuples(told)
            self.assertEqual(repr(function(*right)), repr(told), function)
            self.assertEqual(repr(right), before)
        for function, right in ROOMS + RULES:
            self.only_tuples(function(*right))
        desk = Desk()
        desk.many(("can", "map"))
        self.only_tuples((desk.log(), desk.busy()))

    def test_each_refusal_is_of_its_class_alone(self):
        for function, right, errors in CASES:
            for at, error in enumerate(errors):
                refused = 0
                for thing in ANYTHING:
                    before = repr(thing)
                    wrong = right[:at] + (thing,) + right[at + 1:]
                    told = outcome(function, *wrong)
                    if told[0] == "raised":
                        self.assertEqual(told[1], error, (function, wrong))
                        self.assertEqual(error.__bases__, (GroveError,))
                        refused += 1
                        # What is wrong behind it is not come to.
                        for other in (None, [1], -1):
                            rest = tuple(other for _ in right[at + 1:])
                            self.assertEqual(outcome(function, *wrong[:at + 1], *rest), told)
                    elif error is None:
                        self.assertIs(told[1], False)
                    self.assertEqual(repr(thing), before)
                self.assertGreaterEqual(refused, 0 if error is None else len(ANYTHING) - 5, (function, at))

    def test_a_room_goes_ahead_of_all(self):
        for function, right in ROOMS:
            for thing in ANYTHING + (2, 9, 10 ** 39, -4):
                self.assertEqual(outcome(function, *right, room=thing), ("raised", NoRoom))
                self.assertEqual(outcome(function, *[None for _ in right], room=thing), ("raised", NoRoom))
            for room in range(3, 9):
                self.assertNotEqual(outcome(function, *right, room=room), ("raised", NoRoom))
        for thing in ANYTHING:
            self.assertEqual(outcome(Desk, room=thing), ("raised", NoRoom))

    def test_a_rule_goes_behind_all_that_is_handed_in_ahead(self):
        for function, right in RULES:
            for thing in ANYTHING + ("Coupled", "other"):
                self.assertEqual(outcome(function, *right, rule=thing), ("raised", NoRule))
                self.assertEqual(outcome(function, thing, *right[1:], rule=thing), ("raised", NoTree))
                self.assertEqual(outcome(function, right[0], [thing], *right[2:], rule=thing), ("raised", NoPrograms))
            for rule in (COUPLED, HOPEFUL, LOOSE):
                self.assertEqual(outcome(function, *right, rule=rule)[0], "told")

    def test_what_is_asked_of_anything_is_a_truth(self):
        for function in TRUTHS:
            for thing in ANYTHING:
                before = repr(thing)
                for one in (thing, (thing,), (thing, thing), [thing]):
                    self.assertIn(function(one), (True, False))
                    self.assertIs(type(function(one)), bool)
                self.assertEqual(repr(thing), before)
        for function, right in ((is_tree, TREE), (is_deed, DEEDS[0]), (are_plans, PLANS), (are_programs, SMALL), (is_disk, DISK)):
            self.assertIs(function(right), True)
            self.assertIs(function(list(right)), False)

    def test_what_is_told_may_be_handed_on(self):
        told = [(shows_ranks, PLANS, ranks_for(PLANS)), (shows_stuck, PLANS, stuck_or_never(PLANS)),
                (shows_order, PAIRS, RECORDS, order_of(PAIRS, RECORDS)), (shows_weavings, TREE, SMALL, all_weavings(TREE, SMALL))]
        for function, *right in told:
            self.assertIs(function(*right), True)
        for rule in (HOPEFUL, LOOSE):
            self.assertIs(shows_weavings(TREE, SMALL, all_weavings(TREE, SMALL, rule=rule), rule=rule), True)
        self.assertIs(is_disk(Works(TREE, SMALL).disk()), True)
        self.assertEqual(up(fresh_disk(read_tree(tree_text(tree_by(shape_of(TREE), pairs_of(TREE), room=3))))),
                         tree_by(shape_of(TREE), pairs_of(TREE), room=3))

    def test_great_things_that_are_told_may_be_handed_on(self):
        pairs = tuple((key * 7 % 2003, key) for key in range(2003))
        tree = planted(pairs, room=3)
        self.assertGreater(len(tree[2]), 1000)
        self.assertEqual(up(fresh_disk(tree)), tree)
        works = Works(tree, ((("put", 5000, 1), ("drop", 0), ("span", 0, 3000)),))
        while works.can() or len(works.points()) < 3:
            works.do(("step", 0) if works.can() else ("log", 1))
        self.assertEqual(len(works.history()[2][1]), 2002)
        self.assertEqual(read_tree(tree_text(works.tree())), works.tree())
        self.assertEqual(up(works.disk()), works.tree())
        self.assertEqual(put_up(works.disk(), len(writes_up(works.disk())))[2], works.disk()[2])


class ErrorsTest(unittest.TestCase):
    def test_what_raises_is_no_error_of_pythons_own(self):
        # Two wrong things at once, and things within things.
        for function, right, errors in CASES:
            for thing in ANYTHING:
                for wrong in ([thing] * len(right), [(thing, thing)] * len(right), [[thing]] * len(right)):
                    told = outcome(function, *wrong)
                    if told[0] == "raised":
                        self.assertEqual(told[1].__bases__, (GroveError,), (function, wrong))
                        self.assertIn(told[1], errors)
