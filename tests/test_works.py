import unittest

from latchgrove.deeds.drops import drop
from latchgrove.deeds.puts import put
from latchgrove.disk.logs import fresh_disk, is_disk
from latchgrove.disk.parts import put_up
from latchgrove.disk.up import up
from latchgrove.errors import NoEvent, NoPrograms, NoRule, NoTree
from latchgrove.hands.hands import Hands
from latchgrove.hands.steps import COUPLED, HOPEFUL, LOOSE
from latchgrove.pages.trees import empty
from latchgrove.works.works import Works
from tests.helpers import ANYTHING, NO_WHOLE, outcome, tree_of
from tests.model_disk import all_writes, behind_writes, group_for

BIG = 10 ** 39
ONE = tree_of(3, 1, {1: (10, 20)})
FULL = tree_of(3, 1, {1: (10, 20, 30)})
WIDE = tree_of(3, 9, {1: (0, 10, 20), 2: (30, 40), 3: (50, 60)}, {9: (1, 2, 3)})
PUT, FIND = ("put", 40, 4), ("find", 40)
PARTED = put(FULL, 40, 4)[0]
STEP = ("step", 0)
# A put into FULL takes the head and the root alone; behind its answer a find goes three pages down.
PUTTING = (("take", 0, True, True), ("take", 1, True, True), ("point", None), ("let", 0), ("let", 1))
ALL_PARTS = ((), (0,), (1,), (2,), (3,), (5,), (400,), (0, 1), (1, 1), (1, 2, 3), (2, 0, 400, 1), (400, 400, 400, 400))


def steps(hand, many):
    return (("step", hand),) * many


def told_of(works):
    return (works.can(), works.tree(), works.disk(), works.history(), works.points())


def works_of(tree, programs, events, rule=COUPLED):
    works = Works(tree, programs, rule=rule)
    works.run(events)
    return works


class WorksTest(unittest.TestCase):
    def refused(self, works, *events):
        before = (told_of(works), len(works), works.runs())
        for event in events:
            self.assertEqual(outcome(works.do, event), ("raised", NoEvent), event)
        self.assertEqual((told_of(works), len(works), works.runs()), before)

    def test_fresh_at_first(self):
        for tree in (ONE, FULL, WIDE, empty()):
            for rule in (COUPLED, HOPEFUL, LOOSE):
                works = Works(tree, ((FIND,), (), (PUT,)), rule=rule)
                self.assertEqual(told_of(works), ((0, 2), tree, fresh_disk(tree), (), ()))
                self.assertEqual((len(works), works.runs()), (0, ()))
                self.refused(works, ("step", 1), ("step", 3), ("log", 0), ("log", 1), ("page", 0), ("page", 1), ("cut", 1))

    def test_one_hand_event_by_event(self):
        works = Works(FULL, ((PUT, FIND),))
        rows = group_for(FULL, PARTED, 1)
        for at, told in enumerate(PUTTING):
            self.assertEqual(works.history(), ((PUT, None, 0, None),) if at else ())
            self.assertEqual(works.points(), (0,) if at > 2 else ())
            self.assertEqual((works.can(), works.disk()), ((0,), fresh_disk(FULL)))
            self.assertEqual(works.do(STEP), told)
            self.assertEqual(works.tree(), FULL if at < 2 else PARTED)
        # Behind its last let it tells its answer once all four rows are there.
        for many in range(4):
            self.assertEqual((works.can(), works.disk()), ((), (3, 0, rows[:many], fresh_disk(FULL)[3])))
            self.refused(works, STEP)
            self.assertIsNone(works.do(("log", 1)))
        self.assertEqual((works.can(), works.disk()[2]), ((0,), rows))
        self.assertEqual(works.history(), ((PUT, None, 0, None),))
        self.assertEqual(works.do(STEP), ("answer", None))
        self.assertEqual(works.history(), ((PUT, None, 0, 9),))
        self.assertEqual(works.run(steps(0, 7)), (
            ("take", 0, False, True), ("take", 3, False, True), ("let", 0), ("take", 2, False, True), ("let", 3),
            ("point", 4), ("let", 2)))
        self.assertEqual((works.history(), works.points()), (((PUT, None, 0, 9), (FIND, None, 10, None)), (0, 1)))
        self.assertEqual(works.do(STEP), ("answer", 4))
        self.assertEqual(works.history(), ((PUT, None, 0, 9), (FIND, 4, 10, 17)))
        self.assertEqual((works.can(), len(works), works.points()), ((), 18, (0, 1)))
        self.refused(works, STEP)

    def test_by_hopeful_and_loose(self):
        works = Works(ONE, ((("put", 15, 5),), (("find", 15),)), rule=HOPEFUL)
        self.assertEqual(works.run(steps(0, 5)), (("take", 0, False, True), ("take", 1, True, True), ("let", 0),
                                                  ("point", None), ("let", 1)))
        self.assertEqual(works.run((("log", 1), STEP)), (None, ("answer", None)))
        works = Works(WIDE, ((("find", 60),), (("drop", 60),)), rule=LOOSE)
        works.run(steps(0, 4) + steps(1, 11))
        self.assertEqual(works.run(steps(0, 3)), (("take", 3, False, True), ("point", "lost"), ("let", 3)))
        # It came to its point behind the drop's rows, of which none is there.
        self.assertEqual(works.can(), ())
        many = len(group_for(WIDE, drop(WIDE, 60)[0], 1))
        works.do(("log", many - 1))
        self.assertEqual(works.can(), ())
        works.do(("log", 1))
        self.assertEqual(works.can(), (0, 1))
        self.assertEqual(works.run((STEP, ("step", 1))), (("answer", "lost"), ("answer", 60)))
        self.assertEqual(works.history(), ((("find", 60), "lost", 0, 20), (("drop", 60), 60, 4, 21)))
        self.assertEqual(works.points(), (1, 0))

    def test_several_hands_event_by_event(self):
        # (event, what it tells, who can behind it), by each rule: hand 1 reads what hand 0 put.
        puts, finds = (("put", 15, 5),), (("find", 15), ("drop", 10))
        coupled = (
            (("step", 0), ("take", 0, True, True), (0, 1)), (("step", 1), ("take", 0, False, False), (0,)),
            (("step", 0), ("take", 1, True, True), (0,)), (("cut", 0), None, (0,)), (("step", 0), ("let", 0), (0, 1)),
            (("step", 1), ("take", 1, False, False), (0,)), (("step", 0), ("point", None), (0,)),
            (("step", 0), ("let", 1), (1,)), (("step", 1), ("let", 0), (1,)), (("step", 1), ("point", 5), (1,)),
            (("step", 1), ("let", 1), ()), (("log", 1), None, (0, 1)), (("step", 1), ("answer", 5), (0, 1)),
            (("step", 1), ("take", 0, True, True), (0, 1)), (("page", 1), None, (0, 1)),
            (("step", 0), ("answer", None), (1,)), (("step", 1), ("take", 1, True, True), (1,)),
            (("cut", 1), None, (1,)), (("step", 1), ("let", 0), (1,)), (("step", 1), ("point", 10), (1,)),
            (("fall", (0, 1)), None, ()))
        hopeful = (
            (("step", 0), ("take", 0, False, True), (0, 1)), (("step", 1), ("take", 0, False, True), (0, 1)),
            (("step", 0), ("take", 1, True, True), (0, 1)), (("step", 1), ("take", 1, False, False), (0,)),
            (("step", 0), ("let", 0), (0,)), (("step", 0), ("point", None), (0,)), (("step", 0), ("let", 1), (1,)),
            (("fall", ()), None, (1,)), (("step", 1), ("take", 0, False, True), (1,)),
            (("step", 1), ("take", 1, True, True), (1,)), (("step", 1), ("let", 0), (1,)),
            (("step", 1), ("point", 10), (1,)), (("step", 1), ("let", 1), ()), (("log", 1), None, (1,)),
            (("step", 1), ("answer", 10), ()))
        loose = (
            (("step", 1), ("take", 0, False, True), (0, 1)), (("step", 1), ("let", 0), (0, 1)),
            (("step", 0), ("take", 0, True, True), (0, 1)), (("step", 0), ("take", 1, True, True), (0, 1)),
            (("step", 1), ("take", 1, False, False), (0,)), (("step", 0), ("let", 0), (0,)),
            (("step", 0), ("point", None), (0,)), (("step", 0), ("let", 1), (1,)), (("step", 1), ("point", 5), (1,)),
            (("step", 1), ("let", 1), ()), (("log", 1), None, (0, 1)), (("step", 1), ("answer", 5), (0, 1)),
            (("step", 0), ("answer", None), (1,)))
        after = ("leaf", ((10, 10), (15, 5), (20, 20)), 0)
        less = drop(ONE, 10)[0]
        for rule, events, history, points, tree, cut in (
                (COUPLED, coupled, ((puts[0], None, 0, 15), (finds[0], 5, 1, 12), (finds[1], None, 13, None)), (0, 1),
                 (3, 1, ((1, after),)), 1),
                (HOPEFUL, hopeful, ((puts[0], None, 0, None), (finds[0], None, 1, None), (finds[1], 10, 8, 14)), (2,), less, 0),
                (LOOSE, loose, ((finds[0], 5, 0, 11), (puts[0], None, 2, 12)), (1, 0), (3, 1, ((1, after),)), 0)):
            works = Works(ONE, (puts, finds), rule=rule)
            for at, (event, told, can) in enumerate(events):
                self.assertEqual(len(works), at)
                self.assertEqual(works.do(event), told, (rule, at))
                self.assertEqual(works.can(), can, (rule, at))
            self.assertEqual((works.history(), works.points(), works.tree()), (history, points, tree))
            self.assertEqual((works.disk()[1], len(works.disk()[2])), (cut, 1 - cut))

    def test_an_answer_waits_for_all_rows_behind_its_point_alone(self):
        deeds = ((("put", 10, 1), ("put", 10, 2)), (("find", 10), ("find", 10)), (("put", 20, 2),))
        # Hand 1 reads ahead of all rows; a put's row behind its point is no matter to it.
        works = works_of(ONE, deeds, steps(1, 5) + steps(0, 5))
        self.assertEqual(works.can(), (1, 2))
        self.assertEqual(works.do(("step", 1)), ("answer", 10))
        # Then it reads behind that row.
        self.assertEqual(works.run(steps(1, 5))[3], ("point", 1))
        self.assertEqual(works.can(), (2,))
        works.run(steps(2, 5))
        self.assertEqual(works.can(), ())
        works.do(("log", 1))
        self.assertEqual(works.can(), (0, 1))
        self.assertEqual(works.do(("step", 1)), ("answer", 1))
        self.assertEqual(works.can(), (0,))
        # A put that changes nothing has no row of its own, and waits for those ahead of it.
        works = works_of(ONE, ((("put", 10, 1),), (("put", 20, 20),), (("drop", 55),)), steps(1, 5) + steps(0, 5) + steps(2, 5))
        # The put of 20 came ahead of it.
        self.assertEqual((works.can(), works.points()), ((1,), (0, 1, 2)))
        works.do(("log", 1))
        self.assertEqual(works.can(), (0, 1, 2))

    def test_history_is_as_deeds_began_and_points_as_they_came(self):
        deeds = ((("find", 10),), (("find", 20),), (("walk", 0, 30),))
        works = works_of(ONE, deeds, (("step", 2), ("step", 0), ("step", 1)))
        self.assertEqual(works.history(), ((deeds[2][0], None, 0, None), (deeds[0][0], None, 1, None),
                                           (deeds[1][0], None, 2, None)))
        works.run((("cut", 0),) + steps(1, 5) + steps(2, 3))
        self.assertEqual((works.points(), works.history()[2]), ((2, 0), (deeds[1][0], 20, 2, 8)))
        works.run(steps(2, 2))
        # A deed that waits has begun, too.
        works = works_of(ONE, ((("put", 10, 1),), (("find", 10),)), (("step", 0), ("step", 1)))
        self.assertEqual(works.can(), (0,))
        self.assertEqual(works.history()[1], (("find", 10), None, 1, None))

    def test_log(self):
        works = works_of(FULL, ((PUT, ("drop", 10)),), steps(0, 5))
        rows = group_for(FULL, PARTED, 1)
        self.refused(works, ("log", 0), ("log", 5), ("log", -1), ("log", BIG), *[("log", thing) for thing in NO_WHOLE])
        works.do(("log", 3))
        self.assertEqual(works.disk()[2], rows[:3])
        self.refused(works, ("log", 2), ("log", 0), ("log", 4))
        works.run((("log", 1), STEP) + steps(0, 6))
        self.refused(works, ("log", 5))
        more = group_for(PARTED, drop(PARTED, 10)[0], 5)
        self.assertEqual(len(more), 4)
        works.do(("log", 4))
        self.assertEqual(works.disk(), (3, 0, rows + more, fresh_disk(FULL)[3]))
        self.refused(works, ("log", 1), ("log", 0))

    def test_page(self):
        works = works_of(FULL, ((PUT, ("put", 50, 5), ("drop", 10)), (FIND,)), steps(0, 5))
        # Its last row is not on the disk.
        self.refused(works, *[("page", number) for number in (0, 1, 2, 3, 4, 9)])
        works.do(("log", 2))
        self.refused(works, ("page", 2), ("page", 3))
        works.run((("page", 1), ("page", 0)))
        left, right, root = [page for _, page in PARTED[2]]
        self.assertEqual(works.disk()[3], ((0, 1, ("head", 3)), (1, 2, left)))
        works.run((("log", 2), ("page", 2), STEP))
        self.assertEqual(works.disk()[3], ((0, 1, ("head", 3)), (1, 2, left), (2, 3, right)))
        # A later row of page 2 is in the log, but not there; its page may be written again then.
        self.assertEqual(works.run(steps(0, 7))[5:], (("point", None), ("let", 2)))
        self.refused(works, ("page", 2))
        works.run((("page", 1), ("page", 3), ("log", 1), ("page", 2)))
        more = ("leaf", ((30, 30), (40, 4), (50, 5)), 0)
        self.assertEqual(works.disk()[3], ((0, 1, ("head", 3)), (1, 2, left), (2, 5, more), (3, 4, root)))
        works.do(("page", 2))
        # The drop lends leaf 1 a pair of leaf 2.
        works.run(steps(0, 7))
        self.assertEqual(works.tree(), drop(put(PARTED, 50, 5)[0], 10)[0])
        self.refused(works, ("page", 1), ("page", 2), ("page", 3))
        works.run((("page", 0), ("log", 3)))
        self.assertEqual(works.run((("page", 1), ("page", 2), ("page", 3))), (None, None, None))
        self.assertEqual([row[:2] for row in works.disk()[3]], [(0, 1), (1, 6), (2, 7), (3, 8)])
        self.assertEqual(tuple((row[0], row[2]) for row in works.disk()[3][1:]), works.tree()[2])
        self.refused(works, ("page", 4), ("page", -1), ("page", BIG), *[("page", thing) for thing in NO_WHOLE])

    def test_a_page_that_is_none(self):
        works = works_of(PARTED, ((("drop", 10),),), steps(0, 6) + (("log", 4),))
        after = drop(PARTED, 10)[0]
        self.assertEqual([number for number, _ in after[2]], [1])
        works.run((("page", 2), ("page", 3), ("page", 0)))
        self.assertEqual(works.disk()[3], ((0, 1, ("head", 1)), (1, 0, PARTED[2][0][1]), (2, 3, None), (3, 4, None)))
        self.assertEqual(up(works.disk()), after)
        self.refused(works, ("page", 4))

    def test_cut(self):
        works = works_of(FULL, ((PUT, FIND),), steps(0, 5))
        self.assertIsNone(works.do(("cut", 0)))
        # Of no rows on the disk, of a group cut off, of pages not written.
        self.refused(works, ("cut", 1), ("cut", 4))
        works.run((("log", 2), ("page", 0), ("page", 1)))
        self.refused(works, ("cut", 1), ("cut", 2), ("cut", 3))
        works.do(("log", 2))
        rows = works.disk()[2]
        self.refused(works, ("cut", 3), ("cut", 4), ("cut", 5), ("cut", -1), ("cut", BIG))
        self.refused(works, *[("cut", thing) for thing in NO_WHOLE])
        works.do(("cut", 1))
        self.assertEqual((works.disk()[1], works.disk()[2]), (1, rows[1:]))
        self.refused(works, ("cut", 0))
        # Its row is cut away: the head is in the log no more.
        self.refused(works, ("page", 0))
        works.run((("page", 3), ("page", 2), ("cut", 1), ("cut", 4)))
        self.assertEqual(works.disk(), (3, 4, (), ((0, 1, ("head", 3)), (1, 2, PARTED[2][0][1]),
                                                  (2, 3, PARTED[2][1][1]), (3, 4, PARTED[2][2][1]))))
        self.refused(works, ("page", 0), ("page", 1), ("page", 2), ("page", 3), ("cut", 3), ("cut", 5))
        # The rows are cut away, but they were there: the answer is told, and nothing is lost by a fall.
        self.assertEqual(works.can(), (0,))
        works.do(("fall", ()))
        self.assertEqual((works.tree(), works.points(), works.history()), (PARTED, (0,), ((PUT, None, 0, None),)))
        self.assertEqual(works.run(steps(0, 8))[-1], ("answer", 4))

    def test_rows_behind_a_cut_go_on_by_their_numbers(self):
        works = works_of(ONE, ((("put", 15, 5), ("put", 20, 6)),), steps(0, 5) + (("log", 1), ("page", 1), ("cut", 1)))
        works.run(steps(0, 6))
        self.assertEqual(works.can(), ())
        works.do(("log", 1))
        self.assertEqual(works.disk()[2], ((2, 1, ("leaf", ((10, 10), (15, 5), (20, 20)), 0),
                                            ("leaf", ((10, 10), (15, 5), (20, 6)), 0), True),))
        self.assertEqual(works.do(STEP), ("answer", 20))

    def test_with_each_event_of_a_kind_that_is_none(self):
        works = works_of(FULL, ((PUT,), (FIND,)), steps(0, 5) + (("log", 2),))
        self.refused(works, *ANYTHING)
        for word in ("step", "log", "page", "cut", "fall", "answer", "Step", "steps", "", b"step", None, 1, ("step",)):
            for thing in (*ANYTHING, 0, 1, 2):
                if type(thing) is int and word in ("step", "log", "page", "cut"):
                    continue
                if word == "fall" and type(thing) is tuple and all(type(part) is int for part in thing):
                    continue
                self.refused(works, (word, thing), [word, thing], (word,), (word, thing, thing), (thing, word))
        self.refused(works, ("step", 0), ("step", 2), ("step", -1), ("step", BIG), ("log", True), ("step", True), "step 1")
        for parts in ((0,) * 5, (401,), (0, -1), (True,), (None,), ((),), [], [0], ("0",), None, 0, (0, 401), (BIG,), {}):
            self.refused(works, ("fall", parts), ("fall", parts, 0), ("fall",))


class FallTest(unittest.TestCase):
    events = steps(0, 3) + (("log", 1),) + steps(0, 1) + (("log", 2), ("page", 1)) + steps(0, 1) + (("log", 1), ("page", 2), STEP)
    programs = ((PUT, FIND), (("find", 10),), (("put", 50, 5),))

    def check_fall(self, works, parts, tree):
        history, many, disk = works.history(), len(works), works.disk()
        self.assertIsNone(works.do(("fall", parts)))
        for part in parts + (10 ** 6,):
            disk = behind_writes(disk, min(part, all_writes(disk)))
        self.assertEqual((works.disk(), works.tree()), (disk, tree))
        self.assertIs(is_disk(disk), True)
        self.assertEqual(up(disk), tree)
        self.assertEqual((works.history(), len(works)), (history, many + 1))

    def test_at_every_moment_of_a_deed(self):
        for parts in ALL_PARTS:
            for many in range(len(self.events) + 1):
                works = works_of(FULL, self.programs, self.events[:many])
                self.assertEqual((works.history() == ()), many == 0)
                whole = many >= 9
                self.check_fall(works, parts, PARTED if whole else FULL)
                self.assertEqual(works.points(), (0,) if whole else ())
                self.assertEqual(works.history(), () if many == 0 else ((PUT, None, 0, 10 if many == 11 else None),))
                # The hand goes on behind the put, if that was begun; the others from their first deed.
                self.assertEqual(works.can(), (0, 1, 2))
                self.assertEqual(works.do(STEP), ("take", 0, many == 0, True))
                self.assertEqual(works.history()[-1], ((PUT if many == 0 else FIND), None, many + 1, None))
                again = Works(FULL, self.programs)
                again.run(self.events[:many])
                self.assertEqual(again.run((("fall", parts), STEP))[0], None)
                self.assertEqual(told_of(again), told_of(works))

    def test_of_several_hands(self):
        # Hand 0's put is not there; hand 1 has the head since hand 0 let it, for which hand 2 waits.
        works = works_of(FULL, self.programs, (STEP, ("step", 1), ("step", 2)) + steps(0, 4))
        self.assertEqual(works.can(), (1,))
        self.check_fall(works, (1, 400), FULL)
        self.assertEqual((works.points(), works.can()), ((), (0,)))
        self.assertEqual([record[1:] for record in works.history()], [(None, 0, None), (None, 1, None), (None, 2, None)])
        # Nothing is held any more, and the find of the lost put's key goes through.
        self.assertEqual(works.run(steps(0, 6)), (("take", 0, False, True), ("take", 1, False, True), ("let", 0),
                                                  ("point", None), ("let", 1), ("answer", None)))
        self.assertEqual(works.history()[3], (FIND, None, 8, 13))
        self.assertEqual((works.can(), works.points()), ((), (3,)))

    def test_a_find_behind_rows_that_are_lost_is_lost(self):
        programs = ((("put", 10, 7),), (("find", 10), ("find", 10)), (("find", 20),))
        early = steps(2, 5)
        works = works_of(ONE, programs, early + steps(0, 5) + steps(1, 5))
        self.assertEqual(works.points(), (0, 1, 2))
        works.do(("fall", ()))
        # The early one has no rows ahead of its point: its point stays, but it is never told.
        self.assertEqual((works.points(), works.can()), ((0,), (1,)))
        self.assertEqual(works.run(steps(1, 6))[3::2], (("point", 10), ("answer", 10)))
        self.assertEqual(works.points(), (0, 3))
        self.assertTrue(all(record[1:2] + record[3:] == (None, None) for record in works.history()[:3]))
        # With the row there neither is lost.
        works = works_of(ONE, programs, early + steps(0, 5) + steps(1, 5) + (("log", 1), ("fall", ())))
        self.assertEqual((works.points(), works.tree()), ((0, 1, 2), put(ONE, 10, 7)[0]))
        self.assertEqual([record[3] for record in works.history()], [None] * 3)

    def test_rows_of_a_group_cut_off_are_in_the_log_no_more(self):
        works = works_of(FULL, ((PUT, PUT),), steps(0, 5) + (("log", 2), ("page", 1), ("page", 0)))
        self.check_fall(works, (), FULL)
        self.assertEqual(works.disk(), fresh_disk(FULL))
        for number in range(4):
            self.assertEqual(outcome(works.do, ("page", number)), ("raised", NoEvent))
        self.assertEqual(outcome(works.do, ("log", 1)), ("raised", NoEvent))
        # Their numbers are given again.
        works.run(steps(0, 5) + (("log", 4),))
        self.assertEqual(works.disk()[2], group_for(FULL, PARTED, 1))
        self.assertEqual(works.do(STEP), ("answer", None))

    def test_rows_of_whole_groups_stay_in_the_log(self):
        works = works_of(FULL, self.programs, steps(0, 5) + (("log", 4), ("fall", (2,))))
        rows = group_for(FULL, PARTED, 1)
        pages = ((0, 1, ("head", 3)), (1, 2, PARTED[2][0][1]), (2, 3, PARTED[2][1][1]), (3, 4, PARTED[2][2][1]))
        self.assertEqual(works.disk(), (3, 0, rows, pages))
        works.run((("page", 0), ("page", 3), ("cut", 2)))
        self.assertEqual(works.disk(), (3, 2, rows[2:], pages))
        self.assertEqual(outcome(works.do, ("page", 0)), ("raised", NoEvent))
        works.run((("page", 3), ("fall", ()), ("cut", 4)))
        self.assertEqual(works.disk(), (3, 4, (), pages))

    def test_two_falls_one_behind_the_other(self):
        for one in ALL_PARTS[:6]:
            for many in range(len(self.events) + 1):
                works = works_of(FULL, self.programs, self.events[:many] + (("fall", one),))
                told = told_of(works)
                for parts in ALL_PARTS:
                    self.assertIsNone(works.do(("fall", parts)))
                    self.assertEqual(told_of(works), told)
        # Each fall takes the deed that is begun then.
        works = works_of(FULL, ((PUT, PUT, FIND),), steps(0, 3) + (("fall", ()),) + steps(0, 3) + (("fall", (1,)),))
        self.assertEqual(works.history(), ((PUT, None, 0, None), (PUT, None, 4, None)))
        self.assertEqual((works.points(), works.tree(), works.can()), ((), FULL, (0,)))
        works.run(steps(0, 4) + (("fall", ()),))
        self.assertEqual((works.can(), works.history()[2], works.points()), ((), (FIND, None, 8, None), (2,)))

    def test_broken_off_behind_each_of_the_parts(self):
        works = works_of(FULL, ((PUT,),), steps(0, 5) + (("log", 3), ("page", 1), ("page", 0), ("fall", (1, 1))))
        disk = works_of(FULL, ((PUT,),), steps(0, 5) + (("log", 3), ("page", 1), ("page", 0))).disk()
        self.assertEqual(all_writes(disk), 3)
        self.assertEqual(works.disk(), put_up(put_up(put_up(disk, 1), 1), 1))
        self.assertEqual(works.disk(), fresh_disk(FULL))


class RunTest(unittest.TestCase):
    def test_what_each_event_tells(self):
        works = Works(FULL, ((PUT, FIND),))
        told = works.run(steps(0, 5) + (("log", 4), ("page", 1), ("cut", 0), STEP, ("fall", (1,)), STEP))
        self.assertEqual(told, PUTTING + (None, None, None, ("answer", None), None, ("take", 0, False, True)))
        self.assertIs(type(told), tuple)
        self.assertEqual((works.run(()), len(works)), ((), 11))

    def test_runs(self):
        works = Works(FULL, ((PUT,), (FIND,)))
        self.assertEqual(works.runs(), ())
        works.run((STEP, STEP))
        works.do(STEP)
        works.run(())
        works.run((STEP, ("cut", 0), ("log", 4)))
        self.assertEqual(works.runs(), ((0, 2), (3, 3), (3, 6)))
        # Refused in its middle, at its first event, at its last.
        for events, behind in (((STEP, ("log", 9), STEP), 7), ((None, STEP), 7), (((("cut", 0),) * 3 + (("cut", 9),)), 10)):
            with self.assertRaises(NoEvent):
                works.run(events)
            self.assertEqual((works.runs()[-1][1], len(works)), (behind, behind))
        self.assertEqual(works.runs()[3:], ((6, 7), (7, 7), (7, 10)))

    def test_no_event_at_the_first_that_is_none_those_ahead_done(self):
        for thing in ANYTHING + (("step", 1), ("step", 5), ("log", 5), ("page", 7), ("cut", 1), ("fall", (401,))):
            works, other = Works(FULL, ((PUT,), ())), Works(FULL, ((PUT,), ()))
            with self.assertRaises(NoEvent):
                works.run((STEP, STEP, STEP, thing, STEP))
            other.run((STEP, STEP, STEP))
            self.assertEqual((told_of(works), len(works), works.runs()), (told_of(other), 3, ((0, 3),)))


class EqualTest(unittest.TestCase):
    def same(self, one, other, equal):
        self.assertIs(one == other, equal)
        self.assertIs(other == one, equal)
        self.assertIs(one != other, not equal)

    def test_alike_in_what_they_tell_alone(self):
        programs = ((PUT, FIND), (FIND,))
        for many in range(6):
            self.same(works_of(FULL, programs, steps(0, many)), works_of(FULL, programs, steps(0, many)), True)
        # Steps that none of these tells, runs, and other programs are no part of it.
        self.same(works_of(FULL, programs, steps(0, 1)), works_of(FULL, programs, steps(0, 2)), True)
        self.same(works_of(FULL, ((FIND,),), ()), works_of(FULL, ((PUT, PUT),), (), LOOSE), True)
        one, other = works_of(FULL, programs, steps(0, 2)), Works(FULL, programs)
        other.do(STEP)
        self.same(one, other, True)
        # Of the same rows one has more of them not on the disk.
        self.same(works_of(FULL, programs, ()), works_of(FULL, programs, (("cut", 0),)), True)

    def test_each_part_of_it(self):
        programs = ((PUT, FIND), (FIND,))
        # What can.
        one, other = Works(ONE, ((FIND,), ())), Works(ONE, ((FIND,), (FIND,)))
        self.assertEqual(told_of(one)[1:], told_of(other)[1:])
        self.same(one, other, False)
        # The tree.
        tree = put(FULL, 10, 9)[0]
        self.assertEqual(Works(FULL, programs).can(), Works(tree, programs).can())
        self.same(Works(FULL, programs), Works(tree, programs), False)
        # The disk alone.
        one = works_of(FULL, programs, steps(0, 4) + (("log", 2),))
        other = works_of(FULL, programs, steps(0, 4) + (("log", 1),))
        self.assertEqual((told_of(one)[:2], told_of(one)[3:]), (told_of(other)[:2], told_of(other)[3:]))
        self.same(one, other, False)
        # The history alone: a find begun earlier, or another deed.
        one, other = works_of(ONE, ((FIND,),), steps(0, 1)), works_of(ONE, ((FIND,),), (("cut", 0),) + steps(0, 1))
        self.assertEqual((told_of(one)[:3], told_of(one)[4:]), (told_of(other)[:3], told_of(other)[4:]))
        self.same(one, other, False)
        # The points alone.
        programs = ((("find", 10),), (("find", 20),))
        begun = (STEP, ("step", 1)) + steps(0, 2) + steps(1, 2)
        one, other = works_of(ONE, programs, begun + steps(0, 1)), works_of(ONE, programs, begun)
        self.assertEqual(told_of(one)[:4], told_of(other)[:4])
        self.same(one, other, False)
        one, other = works_of(ONE, programs, begun + (STEP, ("step", 1))), works_of(ONE, programs, begun + (("step", 1), STEP))
        self.assertEqual((one.points(), other.points()), ((0, 1), (1, 0)))
        self.same(one, other, False)

    def test_never_equal_to_a_thing_of_another_kind(self):
        class Any:
            def __eq__(self, other):
                return True

        works = Works(ONE, ((),))
        for thing in ANYTHING + (Works, object(), Hands(ONE, ((),)), told_of(works)):
            self.same(works, thing, False)
        self.assertIs(works == Any(), False)


class RefusalsTest(unittest.TestCase):
    def test_no_tree_then_no_programs_then_no_rule(self):
        good = ((FIND,),)
        for thing in ANYTHING:
            for programs in (good, thing, ()):
                for rule in (COUPLED, thing):
                    self.assertEqual(outcome(Works, thing, programs, rule=rule), ("raised", NoTree))
            if repr(thing) != "((), ())":
                for rule in (COUPLED, thing, "other"):
                    self.assertEqual(outcome(Works, empty(), thing, rule=rule), ("raised", NoPrograms))
            self.assertEqual(outcome(Works, empty(), good, rule=thing), ("raised", NoRule))
        for programs in ((), ((),) * 7, ((FIND,) * 9,), ((("find", -1),),), [()]):
            self.assertEqual(outcome(Works, empty(), programs), ("raised", NoPrograms))

    def test_what_was_told_stays(self):
        works = Works(FULL, ((PUT, FIND),))
        told = (told_of(works), works.runs())
        works.run(steps(0, 5) + (("log", 4), ("page", 0)))
        self.assertEqual(told, (((0,), FULL, fresh_disk(FULL), (), ()), ()))
        self.assertEqual(FULL, tree_of(3, 1, {1: (10, 20, 30)}))
        self.assertEqual(Works(FULL, ((PUT,),)).do(STEP), ("take", 0, True, True))
