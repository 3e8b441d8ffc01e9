"""Puts and drops in many orders, against a plain dict and the second tree of tests/model.py."""

import itertools
import unittest

from latchgrove.deeds.drops import drop
from latchgrove.deeds.puts import put
from latchgrove.deeds.rows import done, plainly, unlike
from latchgrove.pages.looks import value_at
from latchgrove.pages.trees import empty, is_tree, pairs_of
from tests.helpers import Drawn, random_deed
from tests.model import Model, PlainMap


class WholeTest(unittest.TestCase):
    def start(self, room):
        self.tree, self.map, self.model = empty(room=room), {}, Model(empty(room=room))

    def same(self, after, answer, known):
        self.assertEqual(answer, known)
        self.assertIs(is_tree(after), True)
        self.assertEqual(after, self.model.tree())
        self.assertEqual(pairs_of(after), tuple(sorted(self.map.items())))
        self.tree = after

    def put(self, key, value):
        known = self.map.get(key)
        self.map[key] = value
        self.assertEqual(self.model.put(key, value), known)
        after, answer = put(self.tree, key, value)
        self.assertEqual(put(self.tree, key, value), (after, answer))
        self.same(after, answer, known)
        self.assertEqual(value_at(after, key), value)

    def drop(self, key):
        known = self.map.pop(key, None)
        self.assertEqual(self.model.drop(key), known)
        after, answer = drop(self.tree, key)
        self.assertEqual(drop(self.tree, key), (after, answer))
        if known is None:
            self.assertEqual(after, self.tree)
        self.same(after, answer, known)
        self.assertIsNone(value_at(after, key))

    def test_up_and_back_down(self):
        rng = Drawn(18)
        for room in range(3, 9):
            for order in ("rising", "falling", "any", "zigzag"):
                self.start(room)
                keys = list(range(0, 180, 3))
                if order == "falling":
                    keys = keys[::-1]
                elif order == "any":
                    rng.shuffle(keys)
                elif order == "zigzag":
                    keys = [key for pair in zip(keys, keys[::-1]) for key in pair][:60]
                for key in keys:
                    self.put(key, key + 1)
                self.assertGreater(len(self.tree[2]), 8)
                going = list(self.map)
                rng.shuffle(going)
                going = {"rising": sorted(going), "falling": going, "any": sorted(going)[::-1],
                         "zigzag": going}[order]
                for key in going:
                    self.drop(key)
                self.assertEqual(pairs_of(self.tree), ())
                self.assertEqual(len(self.tree[2]), 1)

    def test_puts_and_drops_mixed(self):
        rng = Drawn(19)
        for room in range(3, 9):
            self.start(room)
            for turn in range(300):
                key = rng.randint(0, 60)
                if rng.random() < (0.7 if turn // 60 % 2 == 0 else 0.3):
                    self.put(key, rng.randint(0, 9))
                else:
                    self.drop(key)

    def test_all_orders_of_few_keys(self):
        for keys in itertools.permutations(range(5)):
            self.start(3)
            for key in keys:
                self.put(key, 7)
            for key in keys[::2] + keys[1::2]:
                self.drop(key)
            self.assertEqual(len(self.tree[2]), 1)

    def laid_over(self, tree, rows):
        """The tree with the pages behind in the place of those ahead."""
        pages = {0: ("head", tree[1]), **dict(tree[2])}
        for number, before, after in rows:
            self.assertEqual(pages.pop(number, None), before)
            if after is not None:
                pages[number] = after
        head = pages.pop(0)
        return (tree[0], head[1], tuple(sorted(pages.items())))

    def test_long_rows_of_all_deeds(self):
        draw = Drawn(20)
        for room in range(3, 9):
            tree, plain, deeds, answers = empty(room=room), PlainMap(()), [], []
            for turn in range(250):
                more = ("put", "put", "put", "drop") if turn // 60 % 2 == 0 else ("put", "drop", "drop", "drop")
                deed = random_deed(draw, 50, more + ("find", "span", "walk"))
                deeds.append(deed)
                answers.append(plain.do(deed))
                after, told = done(tree, (deed,))
                self.assertEqual(told, (answers[-1],))
                self.assertIs(is_tree(after), True)
                self.assertEqual(pairs_of(after), plain.pairs())
                self.assertEqual(plainly(pairs_of(tree), (deed,)), (plain.pairs(), told))
                rows = unlike(tree, after)
                self.assertEqual(self.laid_over(tree, rows), after)
                self.assertEqual(rows == (), after == tree)
                if deed[0] in ("find", "span", "walk"):
                    self.assertEqual(rows, ())
                tree = after
            self.assertEqual(done(empty(room=room), tuple(deeds)), (tree, tuple(answers)))
            self.assertEqual(plainly((), tuple(deeds)), (plain.pairs(), tuple(answers)))
