"""What README.md shows is what the program tells."""

import unittest

from latchgrove.deeds.drops import drop
from latchgrove.deeds.puts import planted, put
from latchgrove.pages.looks import stretch, value_at, way_to
from latchgrove.shapes.counts import many_shapes, number_of, shape_at
from latchgrove.shapes.trees import shape_of, tree_by


class ReadmeTest(unittest.TestCase):
    def test_the_example(self):
        tree = planted(((10, 1), (20, 2), (30, 3), (40, 4), (50, 5)))
        self.assertEqual(tree, (4, 3, ((1, ("leaf", ((10, 1), (20, 2), (30, 3)), 2)),
                                       (2, ("leaf", ((40, 4), (50, 5)), 0)), (3, ("node", (40,), (1, 2))))))
        tree, answer = put(tree, 20, 7)
        self.assertEqual(answer, 2)
        tree, answer = drop(tree, 50)
        self.assertEqual(answer, 5)
        self.assertEqual(value_at(tree, 20), 7)
        self.assertEqual(way_to(tree, 40), (3, 2))
        self.assertEqual(stretch(tree, 20, 40), ((20, 7), (30, 3)))
        self.assertEqual(shape_of(tree), (2, 2))
        self.assertEqual(many_shapes(6, room=4), 4)
        self.assertEqual(shape_at(6, 1), (2, 4))
        self.assertEqual(number_of((2, 4)), 1)
        self.assertEqual(tree_by((2, 2), ((1, 0), (2, 0), (3, 0), (4, 0)), room=3)[1], 1)
