import itertools
import unittest

from latchgrove.errors import NoPairs, NoRecords, TooWide
from latchgrove.hands.hands import Hands
from latchgrove.hands.steps import LOOSE
from latchgrove.orders.records import order_of, shows_order
from latchgrove.pages.trees import pairs_of
from tests.helpers import ANYTHING, NO_WHOLE, Drawn, outcome, random_deed, tree_of
from tests.model import PlainMap

TOP = 10 ** 9
# Told: a put of 5 at key 1 from 0 to 3, then a find of it from 4 on.
PUT, FOUND, MISSED = (("put", 1, 5), None, 0, 3), (("find", 1), 5, 4, 6), (("find", 1), None, 4, 6)
NEVER_TOLD = (("put", 1, 7), None, 2, None)
STUCK = (PUT, FOUND, (("find", 1), 9, 0, 6))
# Counted by come_to below, which is the tests' own.
JUST_400 = ((("put", 3, 3), None, 0, None), (("drop", 1), None, 0, 1), (("drop", 2), None, 0, None),
            (("drop", 3), None, 0, 1), (("drop", 3), None, 0, None), (("put", 1, 1), None, 0, None),
            (("drop", 2), None, 0, None), (("put", 1, 2), None, 0, None))
JUST_401 = ((("drop", 1), None, 0, None), (("put", 1, 6), None, 0, None), (("put", 1, 3), None, 0, 1),
            (("drop", 1), None, 2, None), (("put", 2, 6), None, 2, None), (("put", 1, 2), None, 2, None),
            (("put", 1, 3), None, 0, None), (("put", 2, 1), None, 0, None))


def next_of(records, state):
    """By [23]: the states that come next, by the record that comes."""
    done, pairs = state
    after = {}
    for number, (deed, answer, begin, end) in enumerate(records):
        ahead = [other for other, record in enumerate(records) if record[3] is not None and record[3] < begin]
        plain = PlainMap(pairs)
        found = plain.do(deed)
        if number not in done and set(ahead) <= set(done) and (end is None or found == answer):
            after[number] = (tuple(sorted(done + (number,))), plain.pairs())
    return after


def come_to(start, records):
    seen, going = {((), start)}, [((), start)]
    while going:
        for after in next_of(records, going.pop()).values():
            if after not in seen:
                seen.add(after)
                going.append(after)
    return seen


def is_order(start, records, numbers):
    """By [22], word by word."""
    if len(set(numbers)) < len(numbers):
        return False
    if not all(number in numbers for number, record in enumerate(records) if record[3] is not None):
        return False
    for one, other in itertools.permutations(numbers, 2):
        if records[one][3] is not None and records[one][3] < records[other][2]:
            if numbers.index(one) > numbers.index(other):
                return False
    plain = PlainMap(start)
    for number in numbers:
        deed, answer, _, end = records[number]
        if plain.do(deed) != answer and end is not None:
            return False
    return True


def orders_of(start, records):
    numbers = range(len(records))
    return [row for many in range(len(records) + 1) for row in itertools.permutations(numbers, many)
            if is_order(start, records, row)]


def is_table(records, start, table):
    """By [23]: states rising, the first, with each all that come next, none with all told ones done."""
    told = {number for number, record in enumerate(records) if record[3] is not None}
    return (table == tuple(sorted(set(table))) and ((), start) in table
            and all(after in table for state in table for after in next_of(records, state).values())
            and not any(told <= set(done) for done, _ in table))


class OrderOfTest(unittest.TestCase):
    def check(self, start, records):
        told = order_of(start, records)
        orders = orders_of(start, records)
        self.assertEqual(told[0], "order" if orders else "never")
        if orders:
            self.assertIn(told[1], orders)
        else:
            self.assertTrue(is_table(records, start, told[1]))
        self.assertIs(shows_order(start, records, told), True)
        return told

    def test_small_ones(self):
        self.assertEqual(self.check((), ()), ("order", ()))
        self.assertEqual(self.check(((1, 1),), (PUT[:1] + (1,) + PUT[2:],)), ("order", (0,)))
        self.assertEqual(self.check((), (PUT, FOUND)), ("order", (0, 1)))
        self.assertEqual(self.check((), (FOUND, PUT)), ("order", (1, 0)))
        self.assertEqual(self.check((), (PUT, MISSED)), ("never", (((), ()), ((0,), ((1, 5),)))))
        self.assertEqual(self.check((), (FOUND,)), ("never", (((), ()),)))
        self.assertEqual(self.check((), STUCK)[0], "never")

    def test_times_that_touch(self):
        # One whose end is another's begin may stand behind it: its end is not below.
        for begin, word in ((2, "order"), (3, "order"), (4, "never")):
            self.assertEqual(self.check((), (PUT, (("find", 1), None, begin, 9)))[0], word)
        self.assertEqual(self.check((), (PUT, (("find", 1), None, 3, 9))), ("order", (1, 0)))

    def test_never_told_ones(self):
        # One that is needed, whichever its begin; one that is not needed; one that comes too late.
        find = (("find", 1), 7, 5, 6)
        self.assertEqual(self.check((), (find, NEVER_TOLD)), ("order", (1, 0)))
        self.assertEqual(self.check((), (find, (("put", 1, 7), None, 6, None))), ("order", (1, 0)))
        self.assertEqual(self.check((), (find, (("put", 1, 7), None, 7, None)))[0], "never")
        self.assertIn(self.check((), (PUT, NEVER_TOLD))[1], ((0,), (0, 1)))
        self.assertIn(self.check((), (NEVER_TOLD,))[1], ((), (0,)))
        self.assertEqual(self.check(((1, 3),), (NEVER_TOLD, (("drop", 1), 3, 5, 6)))[1][0], 1)
        # It may come behind one that was begun later, but not ahead of one that had ended.
        self.assertEqual(self.check((), (PUT, (("drop", 1), None, 4, None), (("find", 1), None, 5, 9))),
                         ("order", (0, 1, 2)))
        self.assertEqual(self.check((), (PUT, (("drop", 1), None, 4, None), (("put", 1, 6), None, 4, 9),
                                         (("find", 1), 5, 4, 9)))[0], "order")

    def test_each_kind_of_deed_and_answer(self):
        start = ((10, 1), (20, 2))
        for deed, answer in ((("find", 10), 1), (("find", 11), None), (("put", 10, 9), 1), (("put", 11, 9), None),
                             (("drop", 20), 2), (("drop", 21), None), (("span", 10, 20), ((10, 1),)),
                             (("span", 11, 20), ()), (("span", 0, TOP + 1), start)):
            for other in (None, 0, 1, 2, 9, (), ((10, 1),), start, "lost", TOP):
                word = "order" if answer == other and type(answer) is type(other) else "never"
                self.assertEqual(self.check(start, ((deed, other, 0, 1),))[0], word)

    def test_against_all_orders(self):
        draw = Drawn(81)
        seen = {"order": 0, "never": 0}
        for turn in range(150):
            start = tuple((key, draw.randint(0, 3)) for key in (1, 2, 3) if draw.randint(0, 1))
            # Deeds done in some order, with times about it; now and then an answer is another one.
            plain, rows = PlainMap(start), []
            for at in range(draw.randint(1, 5)):
                deed = random_deed(draw, 3, ("find", "put", "drop", "span"))
                answer = plain.do(deed)
                begin, end = max(0, at - draw.randint(0, 2)), at + draw.randint(1, 3)
                if draw.randint(0, 5) == 0:
                    answer = draw.choice((None, 0, 1, "lost"))
                if draw.randint(0, 3) == 0:
                    answer = end = None
                rows.append((deed, answer, begin, end))
            draw.shuffle(rows)
            seen[self.check(start, tuple(rows))[0]] += 1
        self.assertGreater(min(seen.values()), 30)

    def test_of_hands(self):
        # What hands tell has an order by the points; a find that goes astray has none.
        tree = tree_of(3, 9, {1: (0, 10, 20), 2: (30, 40), 3: (50, 60)}, {9: (1, 2, 3)})
        programs = ((("find", 20),), (("put", 15, 5),), (("drop", 60), ("span", 0, 100)))
        hands = Hands(tree, programs)
        draw = Drawn(82)
        while not all(hands.is_through(hand) for hand in range(3)):
            hands.step(draw.randint(0, 2))
        records = tuple(row[1:] for row in hands.history())
        self.assertEqual(self.check(pairs_of(tree), records)[0], "order")
        hands = Hands(tree, programs[:2], rule=LOOSE)
        hands.run((0,) * 4 + (1,) * 9 + (0,) * 3)
        records = tuple(row[1:] for row in hands.history())
        self.assertEqual(len(records), 2)
        self.assertEqual(self.check(pairs_of(tree), records)[0], "never")


class WideTest(unittest.TestCase):
    def test_just_400_and_one_more(self):
        self.assertEqual(len(come_to((), JUST_400)), 400)
        told = order_of((), JUST_400)
        self.assertEqual(told[0], "order")
        self.assertTrue(is_order((), JUST_400, told[1]))
        self.assertIs(shows_order((), JUST_400, told), True)
        self.assertEqual(len(come_to((), JUST_401)), 401)
        # There is an order at hand; what comes behind it counts, too.
        self.assertTrue(is_order((), JUST_401, (2,)))
        with self.assertRaises(TooWide):
            order_of((), JUST_401)

    def test_eight_that_all_come_at_once(self):
        records = tuple((("put", 1, value), None, 0, None) for value in range(8))
        with self.assertRaises(TooWide):
            order_of((), records)
        self.assertEqual(order_of((), records[:6])[0], "order")
        # Finds come at once, too, but leave the pairs as they are: 256 states.
        finds = tuple((("find", key), None, 0, 1) for key in range(8))
        self.assertEqual(len(come_to((), finds)), 256)
        self.assertEqual(order_of((), finds)[0], "order")

    def test_whatever_the_thing_is(self):
        for thing in ANYTHING + (("order", (2,)), ("never", (((), ()),))):
            with self.assertRaises(TooWide):
                shows_order((), JUST_401, thing)


class ShowsOrderTest(unittest.TestCase):
    def test_each_order_and_nothing_else(self):
        draw = Drawn(83)
        many = 0
        for turn in range(30):
            start, records = ((1, 1),), []
            plain = PlainMap(start)
            for at in range(draw.randint(0, 4)):
                deed = random_deed(draw, 2, ("find", "put", "drop"))
                answer, begin = plain.do(deed), max(0, at - draw.randint(0, 3))
                told = draw.randint(0, 2) > 0
                records.append((deed, answer if told else None, begin, at + draw.randint(1, 4) if told else None))
            for length in range(len(records) + 2):
                for row in itertools.product(range(len(records)), repeat=length):
                    right = is_order(start, tuple(records), row)
                    many += right
                    self.assertIs(shows_order(start, tuple(records), ("order", row)), right)
        self.assertGreater(many, 30)

    def test_orders_with_one_thing_otherwise(self):
        records = (PUT, FOUND, NEVER_TOLD, (("drop", 2), None, 0, 9))
        for row in ((0, 1, 3), (3, 0, 1), (0, 3, 1), (2, 0, 1, 3)[1:], (0, 1, 3, 2), (0, 1, 2, 3)):
            self.assertIs(shows_order((), records, ("order", row)), True, row)
        for row in ((0, 1), (0, 3), (1, 3), (), (1, 0, 3), (0, 1, 3, 3), (0, 0, 1, 3), (0, 2, 1, 3), (2, 0, 1, 3),
                    (0, 1, 3, 4), (0, 1, 3, -1), (0, True, 3), (False, 1, 3), (0, 1, "3"), (0, 1, None), [0, 1, 3],
                    (0, 1, (3,)), (0, 1, [3]), (0, 1, {}), None, 3, "013", (0, 1, 3, 10 ** 39)):
            self.assertIs(shows_order((), records, ("order", row)), False, row)
        right = (0, 1, 3)
        for thing in (("never", right), ["order", right], ("order",), ("order", right, 0), right, ("Order", right),
                      (right, "order"), ("order", (right,)), (None, right)):
            self.assertIs(shows_order((), records, thing), False)

    def test_other_right_tables(self):
        start = ((2, 2),)
        told = order_of(start, (PUT, MISSED))
        self.assertEqual(told, ("never", (((), start), ((0,), ((1, 5), (2, 2))))))
        # Also with states that do not come of the first.
        for more in (((), ()), ((), ((1, 7),)), ((1,), ()), ((1,), ((1, 5), (3, 3))), ((0,), ()), ((0,), ((1, 6),))):
            table = set(told[1]) | {more}
            while not all(after in table for state in table for after in next_of((PUT, MISSED), state).values()):
                table |= {after for state in table for after in next_of((PUT, MISSED), state).values()}
            right = is_table((PUT, MISSED), start, tuple(sorted(table)))
            self.assertEqual(right, ((0, 1) not in {done for done, _ in table}))
            self.assertIs(shows_order(start, (PUT, MISSED), ("never", tuple(sorted(table)))), right)
        self.assertIs(shows_order((), (FOUND, PUT[:1] + (9,) + PUT[2:]), ("never", (((), ()), ((), ((5, 5),))))), True)

    def test_tables_with_one_thing_otherwise(self):
        for start, records in (((), (PUT, MISSED)), (((2, 2),), STUCK), ((), STUCK + (NEVER_TOLD,)), ((), (FOUND,))):
            table = order_of(start, records)[1]
            self.assertIs(shows_order(start, records, ("never", table)), True)
            for at in range(len(table)):
                self.assertIs(shows_order(start, records, ("never", table[:at] + table[at + 1:])), False)
            full = tuple(range(len(records)))
            for wrong in (table + table[-1:], table[::-1] if len(table) > 1 else (), list(table), (), None,
                          table + ((full, ()),), table + ((full,),), table + ((full + (9,), ()),), table + (None,),
                          table + (((len(records),), ()),), table + (((-1,), ()),), ((True,), ()),
                          table + (((0, True), ()),), table + (((9, 8), ()),), table + (([], ()),),
                          table + ((full[:1], []),), table + ((full[:1], ((5, 5), (4, 4))),),
                          table + ((full[:1], ((5, -1),)),), table + ((full[:1], None),), dict.fromkeys(table),
                          table + ((full[:1] * 2, ()),), table + (((), ((True, 1),)),), table + (((), (1, 2)),)):
                self.assertIs(shows_order(start, records, ("never", wrong)), False, wrong)
            for thing in (("order", table), ["never", table], ("never",), ("never", table, ()), table,
                          ("Never", table), ("nevermore", table), (None, table)):
                self.assertIs(shows_order(start, records, thing), False)

    def test_tables_with_what_is_no_state(self):
        records = STUCK + (NEVER_TOLD, NEVER_TOLD)
        told = order_of((), records)[1]
        for done, right in (((3, 4), True), ((0, 4), True), ((1,), True), ((4, 3), False), ((3, 3), False),
                            ((0, 0), False), ((-1,), False), ((-1, 0), False), ((5,), False), ((3, 5), False)):
            for pairs in ((), ((1, 5), (2, 2))):
                table = set(told) | {(done, pairs)}
                going = [(done, pairs)]
                while going:
                    more = [one for one in next_of(records, going.pop()).values() if one not in table]
                    table |= set(more)
                    going += more
                # But for what makes it no state, the table has all that it needs.
                table = tuple(sorted(table))
                self.assertTrue(is_table(records, (), table))
                self.assertIs(shows_order((), records, ("never", table)), right, done)
        for pairs in (((2, 2), (1, 5)), ((1, 5), (1, 5)), ((1, -1),), ((TOP + 1, 0),)):
            table = tuple(sorted(set(told) | {((3, 4), pairs)}))
            self.assertIs(shows_order((), (STUCK[2],) + (NEVER_TOLD,) * 4, ("never", table)), False)

    def test_just_one_of_both(self):
        for start, records in (((), (PUT, FOUND)), ((), (PUT, NEVER_TOLD)), ((), ()), ((), (NEVER_TOLD,))):
            self.assertIs(shows_order(start, records, ("never", tuple(sorted(come_to(start, records))))), False)
            self.assertIs(shows_order(start, records, ("never", (((), start),))), False)
        # The table is right by itself, but its state with all told ones done makes it none.
        table = (((), ()), ((0,), ((1, 5),)))
        self.assertIs(shows_order((), (PUT,), ("never", table)), False)
        self.assertIs(shows_order((), (PUT, MISSED), ("never", table)), True)

    def test_of_anything(self):
        for records in ((), (PUT, FOUND), (PUT, MISSED)):
            for thing in ANYTHING:
                self.assertIs(shows_order((), records, thing), False)
                for one in (thing, (thing,), (((), ()), thing)):
                    right = records == () and one == () and type(one) is tuple
                    self.assertIs(shows_order((), records, ("order", one)), right)
                    self.assertIs(shows_order((), records, ("never", one)), False)
                self.assertIs(shows_order((), records, ("never", ((thing, ()),))), False)


class RefusalsTest(unittest.TestCase):
    def wrong_records(self):
        for deed in (("walk", 1, 2), ("find", -1), ("find",), ["find", 1], ("put", 1), None, ("look", 1)):
            yield (deed, None, 0, 1)
            yield (deed, None, 0, None)
        for answer in (True, False, -1, TOP + 1, "Lost", "", b"lost", [], [(1, 1)], ((1, 1), (1, 2)), ((2, 1), (1, 1)),
                       ((1, -1),), (1, 1), {}, ("lost",), ((1, True),), 10 ** 39):
            yield (("find", 1), answer, 0, 1)
            yield (("find", 1), answer, 0, None)
        for answer in (0, 5, (), "lost", ((1, 1),)):
            yield (("find", 1), answer, 0, None)
        for begin in NO_WHOLE + (-1, TOP + 1, 10 ** 39, -10 ** 39):
            yield (("find", 1), None, begin, 10 ** 39)
            yield (("find", 1), None, begin, None)
        for end in NO_WHOLE + (5, 4, 0, -1, -10 ** 39):
            if end is not None:
                yield (("find", 1), None, 5, end)
        yield (("find", 1), None, 0)
        yield (("find", 1), None, 0, 1, 2)
        yield [("find", 1), None, 0, 1]
        yield (0, ("find", 1), None, 0, 1)
        yield from (thing for thing in ANYTHING)

    def test_no_records(self):
        wrong = [(record,) for record in self.wrong_records()] + [(PUT, record) for record in self.wrong_records()]
        wrong += [(PUT,) * 9, [PUT], PUT, {}, (PUT, [PUT]), ((PUT,),), (list(PUT),)]
        wrong += [thing for thing in ANYTHING if not (type(thing) is tuple and thing == ())]
        for thing in wrong:
            self.assertEqual(outcome(order_of, (), thing), ("raised", NoRecords), thing)
            for other in (("order", ()), thing):
                self.assertEqual(outcome(shows_order, (), thing, other), ("raised", NoRecords))

    def test_records_at_their_bounds(self):
        for record in ((("find", 0), None, 0, 1), (("find", TOP), TOP, TOP, TOP + 1), (("find", 1), None, TOP, None),
                       (("drop", 1), "lost", 0, 10 ** 39), (("put", 1, 1), (), 0, 1), (("find", 1), ((0, 0), (TOP, TOP)), 0, 1),
                       (("span", 1, 2), 5, 3, 4), (("span", 0, TOP + 1), None, 3, None)):
            self.assertEqual(outcome(order_of, (), (record,))[0], "told", record)
            self.assertEqual(outcome(shows_order, (), (record,) * 8, None), ("told", False))

    def test_no_pairs_goes_ahead(self):
        wrong = [thing for thing in ANYTHING if not (type(thing) is tuple and thing == ())]
        wrong += [((2, 1), (1, 1)), ((1, 1), (1, 1)), ((1, 1), (1, 2)), [(1, 1)], ((1, True),), ((1, -1),), ((1,),)]
        for thing in wrong:
            for records in ((), (PUT,), JUST_401, None, (PUT,) * 9):
                self.assertEqual(outcome(order_of, thing, records), ("raised", NoPairs))
                self.assertEqual(outcome(shows_order, thing, records, ("order", ())), ("raised", NoPairs))

    def test_no_records_goes_ahead_of_too_wide(self):
        for more in ((None,), (PUT[:3],), (PUT,)):
            self.assertEqual(outcome(order_of, (), JUST_401 + more), ("raised", NoRecords))
            self.assertEqual(outcome(shows_order, (), JUST_401 + more, None), ("raised", NoRecords))
