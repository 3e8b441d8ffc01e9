"""What README.md shows is what the program tells."""

import unittest

from latchgrove.deeds.drops import drop
from latchgrove.deeds.puts import planted, put
from latchgrove.deeds.rows import done, plainly, unlike
from latchgrove.hands.hands import Hands
from latchgrove.hands.steps import HOPEFUL
from latchgrove.latches.ranks import ranks_for, shows_ranks
from latchgrove.latches.stuck import shows_stuck, stuck_or_never
from latchgrove.latches.table import Latches
from latchgrove.orders.records import order_of, shows_order
from latchgrove.pages.looks import stretch, value_at, way_to
from latchgrove.shapes.counts import many_shapes, number_of, shape_at
from latchgrove.shapes.trees import shape_of, tree_by


class ReadmeTest(unittest.TestCase):
    def test_the_example(self):
        tree = planted(((10, 1), (20, 2), (30, 3), (40, 4), (50, 5)))
        self.assertEqual(tree, (4, 3, ((1, ("leaf", ((10, 1), (20, 2), (30, 3)), 2)),
                                       (2, ("leaf", ((40, 4), (50, 5)), 0)), (3, ("node", (40,), (1, 2))))))
        tree, answer = put(tree, 20, 7)
        self.assertEqual(answer, 2)
        tree, answer = drop(tree, 50)
        self.assertEqual(answer, 5)
        self.assertEqual(value_at(tree, 20), 7)
        self.assertEqual(way_to(tree, 40), (3, 2))
        self.assertEqual(stretch(tree, 20, 40), ((20, 7), (30, 3)))
        tree, answers = done(tree, (("find", 10), ("put", 10, 8), ("span", 0, 21)))
        self.assertEqual(answers, (1, 1, ((10, 8), (20, 7))))
        self.assertEqual(plainly(((10, 1),), (("drop", 10), ("find", 10))), ((), (1, None)))
        self.assertEqual(unlike(tree, put(tree, 40, 5)[0]),
                         ((2, ("leaf", ((30, 3), (40, 4)), 0), ("leaf", ((30, 3), (40, 5)), 0)),))
        latches = Latches()
        self.assertIs(latches.take(0, 5, alone=True), True)
        self.assertIs(latches.take(1, 5), False)
        self.assertEqual(latches.let(0, 5), ((1, False),))
        plans = ((("take", 1, True), ("take", 2, True), ("let", 1), ("let", 2)),)
        self.assertEqual(ranks_for(plans), ("ranks", ((1, 0), (2, 1))))
        self.assertIs(shows_ranks(plans, ("ranks", ((1, -3), (2, 40)))), True)
        crossed = ((("take", 1, True), ("take", 2, True), ("let", 1), ("let", 2)),
                   (("take", 2, True), ("take", 1, True), ("let", 1), ("let", 2)))
        self.assertEqual(stuck_or_never(crossed), ("stuck", (0, 1, 0, 1), (0, 1)))
        self.assertIs(shows_stuck(crossed, ("stuck", (1, 0, 0, 1), (1, 0))), True)
        hands = Hands(tree, ((("put", 35, 1),), (("find", 35), ("drop", 10))), rule=HOPEFUL)
        self.assertEqual(hands.step(0), ("take", 0, False, True))
        self.assertEqual(hands.run((1, 0, 0)), (("take", 0, False, True), ("take", 3, False, True), ("let", 0)))
        while not (hands.is_through(0) and hands.is_through(1)):
            hands.run((0, 1))
        self.assertEqual((hands.answers(), len(hands.latches())), (((None,), (1, 8)), 0))
        records = tuple([row[1:] for row in hands.history()])
        self.assertEqual(records[0], (("put", 35, 1), None, 0, 10))
        self.assertEqual(order_of(((10, 8),), records), ("order", (0, 1, 2)))
        self.assertIs(shows_order(((10, 8),), records, ("order", (1, 0, 2))), False)
        self.assertEqual(shape_of(tree), (2, 2))
        self.assertEqual(many_shapes(6, room=4), 4)
        self.assertEqual(shape_at(6, 1), (2, 4))
        self.assertEqual(number_of((2, 4)), 1)
        self.assertEqual(tree_by((2, 2), ((1, 0), (2, 0), (3, 0), (4, 0)), room=3)[1], 1)
