import unittest

from latchgrove.errors import NoEvent, NoRoom, NoText
from latchgrove.hands.steps import COUPLED, HOPEFUL, LOOSE
from latchgrove.pages.trees import empty, pairs_of
from latchgrove.words.desk import Desk
from latchgrove.words.texts import programs_text, tree_text
from latchgrove.works.works import Works
from tests.helpers import ANYTHING, Drawn, outcome, random_deed

PUTS = "works coupled 3 put 10 1 , put 20 2 ; find 10"
NO_TEXTS = tuple(thing for thing in ANYTHING if type(thing) is not str) + (b"tree", ("tree",), ["tree"])


def in_and_out(*rows):
    """What the log has of the rows, whether they are answered or refused."""
    return tuple((way, row) for row in rows for way in ("in", "out"))


class DeskTest(unittest.TestCase):
    def refused(self, desk, error, *rows):
        """Each of the rows is refused, and leaves all but the log as it was."""
        before = desk.many(("tree", "map", "can"))
        for row in rows:
            said = len(desk.log())
            self.assertEqual(outcome(desk.say, row), ("raised", error), row)
            self.assertEqual(desk.log()[said:], in_and_out(row))
            self.assertIs(desk.busy(), False)
        self.assertEqual(desk.many(("tree", "map", "can")), before)

    def test_at_first(self):
        for room in range(3, 9):
            desk = Desk(room=room)
            self.assertEqual((desk.log(), desk.busy()), ((), False))
            self.assertEqual(desk.many(("tree", "map", "can")), (f"{room} 1 / 1 leaf 0", "-", "-"))
        self.assertEqual(Desk().say("tree"), "4 1 / 1 leaf 0")
        self.refused(Desk(), NoEvent, "step 0", "step 1", "log 1", "log 0", "page 0", "page 1", "cut 1")
        self.assertEqual(Desk().many(("cut 0", "fall", "fall 1 400")), ("ok",) * 3)

    def test_of_no_room(self):
        for room in (2, 9, 0, -4, 10 ** 39) + ANYTHING:
            self.assertEqual(outcome(Desk, room=room), ("raised", NoRoom))

    def test_row_by_row(self):
        desk = Desk()
        self.assertEqual(desk.many((PUTS, "can", "map", "tree")), ("ok", "0 1", "-", "3 1 / 1 leaf 0"))
        self.assertEqual(desk.many(("step 0",) * 5), ("ok",) * 5)
        self.assertEqual(desk.many(("can", "map", "tree")), ("1", "10:1", "3 1 / 1 leaf 0 10:1"))
        self.refused(desk, NoEvent, "step 0", "log 2", "page 1", "page 0", "cut 1")
        self.assertEqual(desk.many(("log 1", "can", "page 1", "cut 1", "can", "step 0")), ("ok", "0 1", "ok", "ok", "0 1", "ok"))
        self.assertEqual(desk.many(("step 0",) * 5), ("ok",) * 5)
        self.assertEqual(desk.many(("map", "tree", "can")), ("10:1 20:2", "3 1 / 1 leaf 0 10:1 20:2", "1"))
        self.assertEqual(desk.many(("fall 0 1", "map", "can")), ("ok", "10:1", "1"))
        self.assertEqual(desk.many(("step 1",) * 6 + ("can",)), ("ok",) * 6 + ("-",))
        self.refused(desk, NoEvent, "step 1", "step 0")

    def test_works_by_each_rule_and_room(self):
        desk = Desk(room=5)
        for rule in (COUPLED, HOPEFUL, LOOSE):
            for room in range(3, 9):
                for rows in ("-", "- ; -", "find 1", "put 5 5 , drop 5 ; - ; span 0 9 , walk 1 2"):
                    self.assertEqual(desk.say(f"works {rule} {room} {rows}"), "ok")
                    can = [str(hand) for hand, row in enumerate(rows.split(" ; ")) if row != "-"]
                    self.assertEqual(desk.many(("tree", "map", "can")), (f"{room} 1 / 1 leaf 0", "-", " ".join(can) or "-"))
        # The rule is the works' own: a hopeful put goes shared past the head, for which nobody waits then.
        for rule, can in ((COUPLED, "0"), (HOPEFUL, "0 1"), (LOOSE, "0")):
            self.assertEqual(desk.many((f"works {rule} 4 put 1 1 ; put 2 2", "step 0", "step 1", "can"))[3], can)

    def test_works_that_are_none(self):
        desk = Desk()
        desk.many((PUTS, "step 0"))
        self.refused(
            desk, NoText, "works", "works ", "works coupled", "works coupled 4", "works coupled 4 ", "works 4 coupled -", "works - 4 coupled",
            "works Coupled 4 -", "works coupled 2 -", "works coupled 9 -", "works coupled 04 -", "works coupled +4 -", "works coupled x -",
            "works coupled 4 --", "works coupled 4 - -", "works coupled 4 - ;", "works coupled 4 find", "works coupled 4 find 01",
            "works coupled 4 find -1", "works coupled 4 find 1 , ", "works coupled 4 find 1 ,  find 2", "works  coupled 4 -", " works coupled 4 -",
            "works coupled  4 -", "works coupled 4  -", "works coupled 4 -\n", "works tight 4 -", "works coupled " + "1" * 41 + " -",
            "works coupled " + "1" * 40 + " -", "works coupled 4 " + " ; ".join(["-"] * 7), "works coupled 4 find 1000000001",
            "works coupled 4 " + " , ".join(["find 1"] * 9), "works, coupled 4 -", "works coupled, 4 -", "works coupled 4, -")
        self.assertEqual(desk.many(("step 0", "can")), ("ok", "0 1"))

    def test_rows_that_are_none(self):
        desk = Desk()
        desk.many((PUTS, "step 0"))
        rows = ["", " ", "  ", "tree 1", "tree -", "map 1", "can 0", "step", "step 0 1", "log", "log 1 1", "page", "page 1 2", "cut", "cut 0 0",
                "ok", "-", "Tree", "TREE", "trees", "tre", "put 1 1", "find 1", "step -1", "step +1", "step 00", "step 01", "step x", "step 0.",
                "step \u0660", "step 1_0", "log -1", "log 1:1", "page None", "cut 0x0", "fall -1", "fall 01", "fall 1 x", "fall ()", "fall 1,2",
                "step " + "1" * 41, "log " + "0" * 40, "cut " + "9" * 41, "page " + "9" * 5000, "fall 1 " + "1" * 41, "answer", "run", "log all"]
        for row in ("tree", "map", "can", "step 0", "log 1", "page 1", "cut 0", "fall", "fall 1 2"):
            rows += [" " + row, row + " ", row + "\n", "\t" + row, row.replace(" ", "  ") + " " * (" " not in row), row + "  ", row + "\r",
                     row.upper(), row.replace(" ", "\t") + "\t" * (" " not in row), row + ",", "(" + row + ")", row.replace(" ", "\xa0") + "\xa0"]
        self.refused(desk, NoText, *rows)
        self.refused(desk, NoText, *NO_TEXTS)

    def test_no_text_goes_ahead_of_what_the_works_refuse(self):
        desk = Desk()
        desk.say(PUTS)
        self.refused(desk, NoText, "step 9 ", " step 9", "step  9", "step 09", "step 9 9", "log 0 ", "page 00", "fall 1 1 1 1 01", "fall 401 -1")
        self.refused(desk, NoEvent, "step 9", "step 2", "step " + "9" * 40, "log 0", "log 1", "log " + "9" * 40, "page 0", "page 7",
                     "page " + "9" * 40, "cut 1", "cut " + "9" * 40, "fall 401", "fall 0 401", "fall 1 1 1 1 1", "fall " + "9" * 40)
        self.assertEqual(desk.many(("fall 400 400 400 400", "fall 0", "fall")), ("ok",) * 3)

    def test_many_up_to_the_first_refused(self):
        desk = Desk()
        for row, error in (("step 7", NoEvent), ("stop", NoText), (None, NoText), (["step 0"], NoText)):
            desk.say(PUTS)
            said = len(desk.log())
            self.assertEqual(outcome(desk.many, ("step 0", "can", row, "step 0", "map")), ("raised", error))
            self.assertIs(desk.busy(), False)
            self.assertEqual(desk.log()[said:], in_and_out("step 0", "can", row))
            # Just the first step is done: hand 1 would wait for the head.
            desk.say("step 1")
            self.assertEqual(desk.say("can"), "0")
        self.assertEqual(desk.many(()), ())
        self.assertEqual(outcome(desk.many, (None,)), ("raised", NoText))

    def test_busy_in_the_midst_alone(self):
        seen = []

        class Row(str):
            def split(self, *signs):
                seen.append(desk.busy())
                return str.split(self, *signs)

        desk = Desk()
        self.assertEqual(desk.many((Row("can"), "tree")), ("-", "4 1 / 1 leaf 0"))
        for row in ("step 0", "no row"):
            self.assertEqual(outcome(desk.say, Row(row))[0], "raised")
            self.assertIs(desk.busy(), False)
        self.assertEqual(seen, [True] * 3)

    def test_out_stands_behind_the_answer(self):
        seen = []

        class Row(str):
            def split(self, *signs):
                seen.append(desk.log())
                return str.split(self, *signs)

        desk = Desk()
        desk.say(Row("can"))
        outcome(desk.say, Row("step 0"))
        self.assertEqual(seen, [(("in", "can"),), in_and_out("can") + (("in", "step 0"),)])

    def test_log(self):
        desk = Desk()
        told = desk.many(("can", "tree"))
        self.assertIs(type(told), tuple)
        self.assertEqual(desk.log(), (("in", "can"), ("out", "can"), ("in", "tree"), ("out", "tree")))
        refused = ("step 0", "", 5, None, (), {}, [1, [2]])
        for row in refused:
            self.assertEqual(outcome(desk.say, row)[0], "raised")
        desk.say("map")
        self.assertEqual(desk.log(), in_and_out("can", "tree", *refused, "map"))
        self.assertIs(type(desk.log()), tuple)
        self.assertTrue(all(type(line) is tuple for line in desk.log()))
        self.assertEqual(Desk().log(), ())

    def test_log_of_each_row_that_is_answered(self):
        desk = Desk()
        rows = (PUTS,) + ("step 0",) * 5 + ("can", "map", "tree", "log 1", "page 1", "cut 1", "step 0", "fall", "fall 1 2", "cut 1", PUTS)
        for many, row in enumerate(rows):
            desk.say(row)
            self.assertEqual(desk.log(), in_and_out(*rows[:many + 1]))
        other = Desk()
        other.many(rows)
        self.assertEqual(other.log(), desk.log())

    def test_what_was_told_of_a_log_stays(self):
        desk = Desk()
        desk.say("map")
        told = desk.log()
        desk.many(("can", "tree"))
        outcome(desk.say, "nothing")
        self.assertEqual(told, in_and_out("map"))
        self.assertEqual(desk.log(), in_and_out("map", "can", "tree", "nothing"))

    def test_what_is_logged_is_the_desks_own(self):
        desk = Desk()
        for thing in ANYTHING:
            self.assertEqual(outcome(desk.say, thing), ("raised", NoText))
        self.assertEqual(desk.log(), in_and_out(*ANYTHING))
        self.assertEqual([type(line[1]) for line in desk.log()], [type(row) for _, row in in_and_out(*ANYTHING)])
        thing = [1, {"a": [2]}, ([3],)]
        outcome(desk.say, thing)
        thing[1]["a"].append(4)
        thing[2][0].append(5)
        thing.append(6)
        logged = in_and_out([1, {"a": [2]}, ([3],)])
        self.assertEqual(desk.log()[-2:], logged)
        # Each line of each telling is by itself: the "in" isn't the "out", nor what is told the next time.
        for line in (-2, -1):
            told = desk.log()
            told[line][1].append(7)
            told[line][1][1]["b"] = 8
            told[line][1][2][0].append(9)
            self.assertEqual(told[-3 - line][1], logged[0][1])
            self.assertEqual(desk.log()[-2:], logged)
        self.assertEqual(thing, [1, {"a": [2, 4]}, ([3, 5],), 6])

    def test_beside_works(self):
        draw = Drawn(161)
        for turn in range(20):
            programs = tuple(tuple(random_deed(draw, 30) for _ in range(draw.randint(1, 5))) for _ in range(draw.randint(1, 6)))
            rule, room = draw.choice((COUPLED, HOPEFUL, LOOSE)), draw.randint(3, 8)
            desk, works = Desk(), Works(empty(room=room), programs, rule=rule)
            self.assertEqual(desk.say(f"works {rule} {room} {programs_text(programs)}"), "ok")
            for _ in range(120):
                word = draw.choice(("step",) * 8 + ("log", "page", "cut", "fall")[:draw.choice((3, 3, 4))])
                numbers = [draw.randint(0, 5) for _ in range(draw.randint(0, 5) if word == "fall" else 1)]
                event = (word, tuple(numbers) if word == "fall" else numbers[0])
                told = outcome(works.do, event)
                row = " ".join([word] + [str(number) for number in numbers])
                self.assertEqual(outcome(desk.say, row), ("told", "ok") if told[0] == "told" else told)
                pairs = " ".join(f"{key}:{value}" for key, value in pairs_of(works.tree()))
                can = " ".join(str(hand) for hand in works.can())
                self.assertEqual(desk.many(("tree", "map", "can")), (tree_text(works.tree()), pairs or "-", can or "-"))

    def test_desks_by_themselves(self):
        one, other = Desk(), Desk()
        one.many((PUTS, "step 0"))
        self.assertEqual((other.log(), other.many(("can", "tree"))), ((), ("-", "4 1 / 1 leaf 0")))
        self.assertEqual(len(one.log()), 4)
