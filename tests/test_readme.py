"""What README.md shows is what the program tells."""

import unittest

from latchgrove.deeds.drops import drop
from latchgrove.deeds.puts import planted, put
from latchgrove.deeds.rows import done, plainly, unlike
from latchgrove.disk.logs import fresh_disk, rows_for
from latchgrove.disk.parts import cut_to, put_up, writes_up
from latchgrove.disk.up import up
from latchgrove.hands.hands import Hands
from latchgrove.hands.steps import HOPEFUL, LOOSE
from latchgrove.latches.ranks import ranks_for, shows_ranks
from latchgrove.latches.stuck import shows_stuck, stuck_or_never
from latchgrove.latches.table import Latches
from latchgrove.orders.records import order_of, shows_order
from latchgrove.orders.weavings import all_weavings, ends_of, orders_of, shows_weavings
from latchgrove.pages.looks import stretch, value_at, way_to
from latchgrove.shapes.counts import many_shapes, number_of, shape_at
from latchgrove.shapes.trees import shape_of, tree_by
from latchgrove.words.desk import Desk
from latchgrove.words.texts import programs_text, read_programs, read_tree, tree_text
from latchgrove.works.works import Works


class ReadmeTest(unittest.TestCase):
    def test_the_example(self):
        tree = planted(((10, 1), (20, 2), (30, 3), (40, 4), (50, 5)))
        self.assertEqual(tree, (4, 3, ((1, ("leaf", ((10, 1), (20, 2), (30, 3)), 2)),
                                       (2, ("leaf", ((40, 4), (50, 5)), 0)), (3, ("node", (40,), (1, 2))))))
        tree, answer = put(tree, 20, 7)
        self.assertEqual(answer, 2)
        tree, answer = drop(tree, 50)
        self.assertEqual(answer, 5)
        self.assertEqual(value_at(tree, 20), 7)
        self.assertEqual(way_to(tree, 40), (3, 2))
        self.assertEqual(stretch(tree, 20, 40), ((20, 7), (30, 3)))
        tree, answers = done(tree, (("find", 10), ("put", 10, 8), ("span", 0, 21)))
        self.assertEqual(answers, (1, 1, ((10, 8), (20, 7))))
        self.assertEqual(plainly(((10, 1),), (("drop", 10), ("find", 10))), ((), (1, None)))
        self.assertEqual(unlike(tree, put(tree, 40, 5)[0]),
                         ((2, ("leaf", ((30, 3), (40, 4)), 0), ("leaf", ((30, 3), (40, 5)), 0)),))
        latches = Latches()
        self.assertIs(latches.take(0, 5, alone=True), True)
        self.assertIs(latches.take(1, 5), False)
        self.assertEqual(latches.let(0, 5), ((1, False),))
        plans = ((("take", 1, True), ("take", 2, True), ("let", 1), ("let", 2)),)
        self.assertEqual(ranks_for(plans), ("ranks", ((1, 0), (2, 1))))
        self.assertIs(shows_ranks(plans, ("ranks", ((1, -3), (2, 40)))), True)
        crossed = ((("take", 1, True), ("take", 2, True), ("let", 1), ("let", 2)),
                   (("take", 2, True), ("take", 1, True), ("let", 1), ("let", 2)))
        self.assertEqual(stuck_or_never(crossed), ("stuck", (0, 1, 0, 1), (0, 1)))
        self.assertIs(shows_stuck(crossed, ("stuck", (1, 0, 0, 1), (1, 0))), True)
        hands = Hands(tree, ((("put", 35, 1),), (("find", 35), ("drop", 10))), rule=HOPEFUL)
        self.assertEqual(hands.step(0), ("take", 0, False, True))
        self.assertEqual(hands.run((1, 0, 0)), (("take", 0, False, True), ("take", 3, False, True), ("let", 0)))
        while not (hands.is_through(0) and hands.is_through(1)):
            hands.run((0, 1))
        self.assertEqual((hands.answers(), len(hands.latches())), (((None,), (1, 8)), 0))
        records = tuple([row[1:] for row in hands.history()])
        self.assertEqual(records[0], (("put", 35, 1), None, 0, 10))
        self.assertEqual(order_of(((10, 8),), records), ("order", (0, 1, 2)))
        self.assertIs(shows_order(((10, 8),), records, ("order", (1, 0, 2))), False)
        self.look_at_weavings(tree)
        self.assertEqual(shape_of(tree), (2, 2))
        self.assertEqual(many_shapes(6, room=4), 4)
        self.assertEqual(shape_at(6, 1), (2, 4))
        self.assertEqual(number_of((2, 4)), 1)
        self.assertEqual(tree_by((2, 2), ((1, 0), (2, 0), (3, 0), (4, 0)), room=3)[1], 1)

    def look_at_weavings(self, tree):
        programs = ((("find", 30),), (("drop", 30),))
        self.assertEqual(all_weavings(tree, programs)[0], "whole")
        self.assertIs(shows_weavings(tree, programs, all_weavings(tree, programs)), True)
        self.assertEqual(orders_of(tree, programs), (((3,), (3,)), ((None,), (3,))))
        self.assertEqual(ends_of(tree, ((("find", 40),), (("drop", 30),)), rule=LOOSE),
                         ((("lost",), (3,)), ((4,), (3,))))

    def test_the_disk(self):
        one = planted(((10, 1), (20, 2), (30, 3)), room=3)
        rows = rows_for(one, put(one, 20, 5)[0])
        after = ("leaf", ((10, 1), (20, 5), (30, 3)), 0)
        self.assertEqual(rows, ((1, 1, ("leaf", ((10, 1), (20, 2), (30, 3)), 0), after, True),))
        disk = (3, 0, rows, fresh_disk(one)[3])
        self.assertEqual(up(disk), put(one, 20, 5)[0])
        self.assertEqual(writes_up(disk), ((1, 1, after),))
        self.assertEqual(cut_to(put_up(disk, 1), 1)[:3], (3, 1, ()))
        works = Works(one, ((("put", 20, 5), ("find", 20)),))
        self.assertEqual(works.run((("step", 0),) * 5)[2:], (("let", 0), ("point", 2), ("let", 1)))
        self.assertEqual(works.can(), ())
        self.assertEqual(works.run((("log", 1), ("step", 0), ("page", 1), ("cut", 1), ("fall", ()))),
                         (None, ("answer", 2), None, None, None))
        self.assertEqual(works.history(), ((("put", 20, 5), 2, 0, 6),))

    def test_the_texts(self):
        one = planted(((10, 1), (20, 2), (30, 3)), room=3)
        self.assertEqual(tree_text(one), "3 1 / 1 leaf 0 10:1 20:2 30:3")
        self.assertEqual(read_tree("3 1 / 1 leaf 0 10:1 20:2 30:3"), one)
        self.assertEqual(programs_text(((("put", 20, 5), ("find", 20)), ())), "put 20 5 , find 20 ; -")
        self.assertEqual(read_programs("- ; drop 7"), ((), (("drop", 7),)))
        told = Desk().many(("works coupled 3 put 20 5 ; find 20", "step 0", "can", "step 1", "can", "map"))
        self.assertEqual(told, ("ok", "ok", "0 1", "ok", "0", "-"))
