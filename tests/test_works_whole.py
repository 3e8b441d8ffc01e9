"""Works in many runs of events, against the second works of tests/model_works.py and the words of [32]."""

import unittest

from latchgrove.deeds.rows import done
from latchgrove.disk.logs import is_disk
from latchgrove.disk.up import up
from latchgrove.errors import NoEvent
from latchgrove.hands.steps import COUPLED, HOPEFUL, LOOSE
from latchgrove.orders.records import shows_order
from latchgrove.pages.trees import is_tree, pairs_of
from latchgrove.works.works import Works
from tests.helpers import Drawn, outcome, random_deed, random_tree
from tests.model import PlainMap
from tests.model_works import WorksModel

FEW = ("find", "put", "drop", "drop", "span")
ALL = FEW + ("put", "walk")


class Watch:
    """Works beside the second ones, looked at behind every event."""

    def __init__(self, test, draw, tree, programs, rule):
        self.test, self.draw, self.tree, self.programs, self.rule = test, draw, tree, programs, rule
        self.works, self.model = Works(tree, programs, rule=rule), WorksModel(tree, programs, rule)
        self.hands = range(len(programs))
        self.told = []
        self.seen = {"step": 0, "log": 0, "page": 0, "cut": 0, "fall": 0, "no": 0, "waits": 0, "lost": 0, "kept": 0}

    def some_event(self):
        draw, works = self.draw, self.works
        word = draw.choice(("step",) * 50 + ("log",) * 5 + ("page",) * 9 + ("cut",) * 3 + ("fall",))
        if word == "step":
            return (word, draw.choice(self.works.can() * 3 + tuple(self.hands)))
        if word == "log":
            return (word, draw.choice((1, 1, 1, 2, 3, len(self.model.log) - self.model.there)))
        if word == "page":
            return (word, draw.choice([0, 1] + [row[1] for row in works.disk()[2]] + [row[0] for row in works.disk()[3]]))
        if word == "cut":
            return (word, works.disk()[1] + draw.randint(0, 4))
        return (word, tuple(draw.choice((0, 1, 2, 3, 5, 400)) for _ in range(draw.randint(0, 4))))

    def go_on(self):
        test, works, model, event = self.test, self.works, self.model, self.some_event()
        if not model.can_come(event):
            self.seen["no"] += 1
            test.assertEqual(outcome(works.do, event), ("raised", NoEvent), event)
        else:
            self.seen[event[0]] += 1
            test.assertEqual(works.do(event), self.come(event), event)
        self.look()

    def come(self, event):
        points, begun = self.model.told_points(), [number for number in self.model.mine if number is not None]
        told = self.model.come(event)
        if event[0] == "fall":
            kept = self.model.told_points()
            self.seen["lost"] += kept != points
            self.seen["kept"] += any(number in kept for number in begun)
        if told is not None and told[0] == "answer":
            self.told.append((self.model.events - 1, told[1]))
        return told

    def look(self):
        test, works, model = self.test, self.works, self.model
        test.assertEqual(works.tree(), model.now)
        test.assertEqual(works.disk(), model.disk())
        test.assertEqual(works.history(), model.told_history())
        test.assertEqual(works.points(), model.told_points())
        test.assertEqual(works.can(), tuple(hand for hand in self.hands if model.can(hand)))
        test.assertEqual(len(works), model.events)
        self.seen["waits"] += any(model.act[hand] == ("answer",) and not model.can(hand) for hand in self.hands)
        self.look_at_points()

    def look_at_points(self):
        test, works, history = self.test, self.works, self.works.history()
        points = works.points()
        tree, answers = done(self.tree, tuple(history[number][0] for number in points))
        # The tree is by the deeds in the order of the points; what comes up by those whose rows are whole there.
        test.assertEqual(works.tree(), tree)
        test.assertIs(is_disk(works.disk()), True)
        rows = works.disk()[1] + len(works.disk()[2])
        whole = tuple(history[number][0] for number, row in self.model.point_of if row <= rows)
        test.assertEqual(up(works.disk()), done(self.tree, whole)[0])
        for number, (deed, answer, begin, end) in enumerate(history):
            if end is not None:
                test.assertIn((end, answer), self.told)
                test.assertIn(number, points)
        if not all(self.model.through(hand) for hand in self.hands):
            test.assertTrue(works.can() or len(self.model.log) > self.model.there)
        if self.rule == LOOSE:
            return
        for number, answer in zip(points, answers):
            if history[number][3] is not None and history[number][0][0] != "walk":
                test.assertEqual(history[number][1], answer)
        for at, number in enumerate(points):
            for other in points[:at]:
                test.assertFalse(history[number][3] is not None and history[number][3] < history[other][2])

    def is_through(self):
        return all(self.model.through(hand) for hand in self.hands)


class WholeTest(unittest.TestCase):
    def watch(self, draw, rule, turns, words):
        seen = {}
        for _ in range(turns):
            room, height = draw.randint(3, 5), draw.randint(1, 3)
            tree = random_tree(draw, room, height, greatest=150 if height == 3 else 40)
            programs = tuple(tuple(random_deed(draw, 40, words) for _ in range(draw.randint(1, 6)))
                             for _ in range(draw.randint(1, 6)))
            watch = Watch(self, draw, tree, programs, rule)
            watch.look()
            while not watch.is_through():
                watch.go_on()
            for _ in range(30):
                watch.go_on()
            self.assertEqual(watch.works.can(), ())
            self.assertIs(is_tree(watch.works.tree()), True)
            self.look_at_order(tree, watch.works, rule)
            seen = {word: many + seen.get(word, 0) for word, many in watch.seen.items()}
        self.assertGreater(min(seen.values()), 4, seen)

    def look_at_order(self, tree, works, rule):
        """The points are an order of the history, walks aside."""
        history = works.history()
        kept = [number for number, record in enumerate(history) if record[0][0] != "walk"]
        points = tuple(kept.index(number) for number in works.points() if number in kept)
        if len(kept) <= 5 and rule != LOOSE:
            records = tuple(history[number] for number in kept)
            self.assertIs(shows_order(pairs_of(tree), records, ("order", points)), True)
        if rule != LOOSE:
            plain = PlainMap(pairs_of(tree))
            for number in works.points():
                answer = plain.do(history[number][0])
                if history[number][3] is not None and history[number][0][0] != "walk":
                    self.assertEqual(answer, history[number][1])

    def test_coupled(self):
        self.watch(Drawn(141), COUPLED, 22, ALL)
        self.watch(Drawn(142), COUPLED, 30, FEW)

    def test_hopeful(self):
        self.watch(Drawn(143), HOPEFUL, 22, ALL)
        self.watch(Drawn(144), HOPEFUL, 30, FEW)

    def test_loose(self):
        self.watch(Drawn(145), LOOSE, 22, ALL)


class ManyHandsAtOnceTest(unittest.TestCase):
    def test_nobody_waits_for_ever(self):
        # Whoever can steps; a row gets to the disk just where nobody can.
        draw = Drawn(146)
        for rule in (COUPLED, HOPEFUL, LOOSE):
            for turn in range(8):
                tree = random_tree(draw, 3, draw.randint(1, 3), 150)
                programs = tuple(tuple(random_deed(draw, 60) for _ in range(8)) for _ in range(6))
                works, logs = Works(tree, programs, rule=rule), 0
                while len(works.history()) < 48 or works.history()[-1][3] is None or works.can():
                    if works.can():
                        works.do(("step", draw.choice(works.can())))
                    else:
                        works.do(("log", 1))
                        logs += 1
                    if len(works) > 4000:
                        break
                self.assertEqual(len(works.points()), 48)
                self.assertGreater(logs, 20)
                self.assertTrue(all(record[3] is not None for record in works.history()))
