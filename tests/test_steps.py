import unittest

from latchgrove.hands.steps import COUPLED, HOPEFUL, LOOSE, are_programs
from tests.helpers import ANYTHING

TOP = 10 ** 9
DEEDS = (("find", 0), ("put", TOP, TOP), ("drop", 5), ("span", 0, TOP + 1), ("walk", 3, 9))


class StepsTest(unittest.TestCase):
    def test_the_rules(self):
        self.assertEqual((COUPLED, HOPEFUL, LOOSE), ("coupled", "hopeful", "loose"))

    def test_programs(self):
        for many in range(1, 7):
            for length in range(0, 9):
                row = (DEEDS * 2)[:length]
                self.assertIs(are_programs((row,) * many), True)
                self.assertIs(are_programs(((),) * (many - 1) + (row,)), True)

    def test_each_word_broken(self):
        good = (("find", 1), ("put", 2, 3))
        for thing in ((), ((),) * 7, (good,) * 7, (DEEDS * 2,), ((("find", 1),) * 9,), ((), (("find", 1),) * 9),
                      [good], (list(good),), (good, list(good)), good, ("find", 1), (good, None), (None,),
                      (good + (None,),), ((("find", -1),),), ((("find", True),),), ((("find", 1, 2),),),
                      ((["find", 1],),), ((("put", 1),),), ((("put", 1, TOP + 1),),), ((("span", 5, 5),),),
                      ((("walk", 5, TOP + 2),),), ((("look", 5),),), ({"find": 1},), (good, (("drop", None),))):
            self.assertIs(are_programs(thing), False, thing)

    def test_of_anything(self):
        for thing in ANYTHING:
            self.assertIs(are_programs(thing), type(thing) is tuple and thing == ((), ()))
            self.assertIs(are_programs((thing,)), type(thing) is tuple and thing == ())
            self.assertIs(are_programs(((thing,),)), False)
            self.assertIs(are_programs(((), (("find", 1), thing))), False)
