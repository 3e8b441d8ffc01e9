"""The names, arguments and kinds of the interface, each in the file that lists it."""

import importlib
import inspect
import unittest

FUNCTIONS = {
    "latchgrove.pages.trees": {
        "is_tree": "(thing)", "empty": "(*, room=4)", "pairs_of": "(tree)", "height_of": "(tree)",
        "page_at": "(tree, number)", "by_rank": "(tree)"},
    "latchgrove.pages.looks": {
        "way_to": "(tree, key)", "value_at": "(tree, key)", "stretch": "(tree, low, high)"},
    "latchgrove.deeds.puts": {
        "put": "(tree, key, value)", "safe_for_put": "(tree, number, key)", "planted": "(pairs, *, room=4)"},
    "latchgrove.deeds.drops": {
        "drop": "(tree, key)", "safe_for_drop": "(tree, number, key)", "mate_of": "(tree, number)"},
    "latchgrove.deeds.rows": {
        "is_deed": "(thing)", "done": "(tree, deeds)", "plainly": "(pairs, deeds)", "unlike": "(one, other)"},
    "latchgrove.latches.ranks": {
        "are_plans": "(thing)", "ranks_for": "(plans)", "shows_ranks": "(plans, thing)"},
    "latchgrove.latches.stuck": {"stuck_or_never": "(plans)", "shows_stuck": "(plans, thing)"},
    "latchgrove.hands.steps": {"are_programs": "(thing)"},
    "latchgrove.orders.records": {
        "order_of": "(start, records)", "shows_order": "(start, records, thing)"},
    "latchgrove.orders.weavings": {
        "all_weavings": "(tree, programs, *, rule='coupled')",
        "shows_weavings": "(tree, programs, thing, *, rule='coupled')",
        "ends_of": "(tree, programs, *, rule='coupled')", "orders_of": "(tree, programs)"},
    "latchgrove.disk.logs": {
        "rows_for": "(one, other, *, number=1)", "is_disk": "(thing)", "fresh_disk": "(tree)"},
    "latchgrove.disk.up": {"up": "(disk)"},
    "latchgrove.disk.parts": {
        "writes_up": "(disk)", "put_up": "(disk, many)", "cut_to": "(disk, number)"},
    "latchgrove.words.texts": {
        "tree_text": "(tree)", "read_tree": "(text)", "programs_text": "(programs)", "read_programs": "(text)"},
    "latchgrove.shapes.counts": {
        "many_shapes": "(many, *, room=4)", "shape_at": "(many, number, *, room=4)",
        "number_of": "(shape, *, room=4)"},
    "latchgrove.shapes.trees": {"shape_of": "(tree)", "tree_by": "(shape, pairs, *, room=4)"},
}
CLASSES = {
    ("latchgrove.latches.table", "Latches"): {
        "__init__": "(self)", "take": "(self, hand, page, *, alone=False)", "let": "(self, hand, page)",
        "holders": "(self, page)", "queue": "(self, page)", "held": "(self, hand)", "awaited": "(self, hand)",
        "ring": "(self)", "__eq__": "(self, other)", "__len__": "(self)"},
    ("latchgrove.hands.hands", "Hands"): {
        "__init__": "(self, tree, programs, *, rule='coupled')", "step": "(self, hand)", "run": "(self, weaving)",
        "runs": "(self)", "tree": "(self)", "latches": "(self)", "can_step": "(self, hand)",
        "is_through": "(self, hand)", "points": "(self)", "history": "(self)", "answers": "(self)",
        "__eq__": "(self, other)", "__len__": "(self)"},
    ("latchgrove.works.works", "Works"): {
        "__init__": "(self, tree, programs, *, rule='coupled')", "do": "(self, event)", "run": "(self, events)",
        "runs": "(self)", "can": "(self)", "tree": "(self)", "disk": "(self)", "history": "(self)",
        "points": "(self)", "__eq__": "(self, other)", "__len__": "(self)"},
    ("latchgrove.words.desk", "Desk"): {
        "__init__": "(self, *, room=4)", "say": "(self, row)", "many": "(self, rows)", "log": "(self)",
        "busy": "(self)"},
}


class InterfaceTest(unittest.TestCase):
    def test_names_and_arguments(self):
        for place, functions in FUNCTIONS.items():
            module = importlib.import_module(place)
            for name, arguments in functions.items():
                function = getattr(module, name)
                self.assertTrue(inspect.isfunction(function))
                self.assertEqual(function.__module__, place)
                self.assertEqual(str(inspect.signature(function)), arguments, name)

    def test_classes_and_their_methods(self):
        for (place, name), methods in CLASSES.items():
            module = importlib.import_module(place)
            one = getattr(module, name)
            self.assertTrue(inspect.isclass(one))
            self.assertEqual(one.__module__, place)
            for method, arguments in methods.items():
                self.assertIn(method, vars(one))
                self.assertEqual(str(inspect.signature(vars(one)[method])), arguments, method)

    def test_told_rows_are_tuples(self):
        from latchgrove.deeds.drops import drop
        from latchgrove.deeds.puts import planted, put
        from latchgrove.hands.hands import Hands
        from latchgrove.latches.ranks import ranks_for
        from latchgrove.latches.stuck import stuck_or_never
        from latchgrove.orders.records import order_of
        from latchgrove.shapes.counts import shape_at
        from latchgrove.shapes.trees import shape_of, tree_by

        def only_tuples(thing):
            self.assertIn(type(thing), (tuple, int, str, bool, type(None)))
            for part in thing if type(thing) is tuple else ():
                only_tuples(part)

        pairs = tuple((key, key) for key in range(30))
        tree = planted(pairs)
        only_tuples(tree)
        only_tuples(put(tree, 31, 1))
        only_tuples(put(tree, 31, 1)[0])
        for key in range(30):
            only_tuples(drop(tree, key))
            tree = drop(tree, key)[0]
        hands = Hands(tree, ((("put", 5, 5), ("span", 0, 9)), (("walk", 0, 9), ("drop", 5))))
        only_tuples(hands.run((0, 1) * 40))
        for told in (hands.tree(), hands.points(), hands.history(), hands.answers(), hands.runs()):
            only_tuples(told)
        for table in (hands.latches(), Hands(tree, ((("find", 1),),)).latches()):
            only_tuples((table.holders(0), table.queue(0), table.held(0), table.ring()))
        plans = ((("take", 1, True), ("take", 2, True), ("let", 1), ("let", 2)),
                 (("take", 2, True), ("take", 1, True), ("let", 1), ("let", 2)))
        for told in (ranks_for(plans), ranks_for(plans[:1]), stuck_or_never(plans), stuck_or_never(plans[:1])):
            only_tuples(told)
        for records in ((), ((("find", 1), 5, 0, 1),), ((("put", 1, 5), None, 0, 1), (("find", 1), None, 2, 3))):
            only_tuples(order_of((), records))
            only_tuples(order_of(((1, 5),), records))
        only_tuples(shape_of(planted(pairs)))
        for number in range(9):
            only_tuples(shape_at(30, number))
            only_tuples(tree_by(shape_at(30, number), pairs))

    def test_what_is_told_may_be_handed_on(self):
        from latchgrove.deeds.puts import planted
        from latchgrove.pages.trees import is_tree, pairs_of
        from latchgrove.shapes.counts import number_of, shape_at
        from latchgrove.shapes.trees import shape_of, tree_by
        pairs = tuple((key, key) for key in range(60))
        for room in range(3, 9):
            shape = shape_of(planted(pairs, room=room))
            again = shape_at(60, number_of(shape, room=room), room=room)
            self.assertEqual(again, shape)
            tree = tree_by(again, pairs_of(planted(pairs, room=room)), room=room)
            self.assertTrue(is_tree(tree))
