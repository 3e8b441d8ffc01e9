import itertools
import unittest

from latchgrove.errors import NoNumber, NoRoom, NoShape, TooMany
from latchgrove.shapes.counts import many_shapes, number_of, shape_at
from tests.helpers import ANYTHING, NO_WHOLE, Drawn, half_of, pairs_in, random_shape


def all_kids(room, height, most):
    """Shapes of pages but the root, of this height, of no more than most pairs."""
    if height == 1:
        return [many for many in range(half_of(room), room + 1) if many <= most]
    return list(rows_of(all_kids(room, height - 1, most), half_of(room), room, most))


def rows_of(kids, least, room, most):
    rows = [((), 0)]
    for many in range(1, room + 1):
        rows = [(row + (kid,), pairs + pairs_in(kid)) for row, pairs in rows for kid in kids
                if pairs + pairs_in(kid) <= most]
        if many >= least:
            yield from (row for row, _ in rows)


def all_shapes(room, most):
    """For each number of pairs all shapes, by height, then as Python sorts."""
    table = {many: [many] if many <= room else [] for many in range(most + 1)}
    for height in range(2, 7):
        rows = sorted(rows_of(all_kids(room, height - 1, most), 2, room, most))
        for row in rows:
            table[pairs_in(row)].append(row)
    return table


class SmallOnesTest(unittest.TestCase):
    def test_against_all_of_them(self):
        for room, most in ((3, 16), (4, 14), (5, 18), (6, 18), (7, 22), (8, 22)):
            for many, shapes in all_shapes(room, most).items():
                self.assertEqual(many_shapes(many, room=room), len(shapes), (room, many))
                told = [shape_at(many, number, room=room) for number in range(len(shapes))]
                self.assertEqual(told, shapes, (room, many))
                for number, shape in enumerate(shapes):
                    self.assertEqual(number_of(shape, room=room), number)
                with self.assertRaises(NoNumber):
                    shape_at(many, len(shapes), room=room)

    def test_room_left_out_is_four(self):
        self.assertEqual(many_shapes(5), 2)
        self.assertEqual([shape_at(5, 0), shape_at(5, 1)], [(2, 3), (3, 2)])
        self.assertEqual([number_of((2, 3)), number_of((3, 2))], [0, 1])
        self.assertEqual(many_shapes(4), 2)
        self.assertEqual([shape_at(4, 0), shape_at(4, 1)], [4, (2, 2)])
        for many in range(0, 61, 6):
            self.assertEqual(many_shapes(many), many_shapes(many, room=4))
            last = many_shapes(many) - 1
            self.assertEqual(shape_at(many, last), shape_at(many, last, room=4))
            self.assertEqual(number_of(shape_at(many, last)), last)

    def test_by_hand(self):
        self.assertEqual([many_shapes(many, room=3) for many in range(9)], [1, 1, 1, 1, 1, 2, 2, 3, 4])
        self.assertEqual([shape_at(8, number, room=3) for number in range(4)],
                         [(2, 3, 3), (3, 2, 3), (3, 3, 2), ((2, 2), (2, 2))])
        self.assertEqual([shape_at(6, number) for number in range(4)], [(2, 2, 2), (2, 4), (3, 3), (4, 2)])
        self.assertEqual(shape_at(0, 0), 0)
        self.assertEqual(number_of(0), 0)


class GreatOnesTest(unittest.TestCase):
    def test_numbers_and_shapes_belong_together(self):
        rng = Drawn(4)
        for room in range(3, 9):
            for many in range(0, 61, 3):
                count = many_shapes(many, room=room)
                self.assertGreater(count, 0)
                numbers = [0, count - 1] + [rng.randrange(count) for _ in range(3)]
                for number in numbers:
                    shape = shape_at(many, number, room=room)
                    self.assertEqual(pairs_in(shape), many)
                    self.assertEqual(number_of(shape, room=room), number)

    def test_they_rise_by_height_then_as_python_sorts(self):
        def height(shape):
            return 1 if isinstance(shape, int) else 1 + height(shape[0])

        rng = Drawn(5)
        for room in range(3, 9):
            for many in (25, 41, 60):
                count = many_shapes(many, room=room)
                for _ in range(20):
                    number = rng.randrange(count - 1)
                    one, other = shape_at(many, number, room=room), shape_at(many, number + 1, room=room)
                    self.assertLess((height(one), one), (height(other), other))

    def test_sixty_pairs(self):
        known = {3: 41594281060, 4: 71421406738104, 5: 127679914, 6: 1767161616, 7: 4565043, 8: 16906626}
        for room, count in known.items():
            self.assertEqual(many_shapes(60, room=room), count)
            self.assertEqual(number_of(shape_at(60, count - 1, room=room), room=room), count - 1)
            self.assertEqual(number_of(shape_at(60, 0, room=room), room=room), 0)
            with self.assertRaises(NoNumber):
                shape_at(60, count, room=room)

    def test_counted_another_way(self):
        # By numbers of kids, each count a plain sum over all ways to hand pairs to the kids.
        for room in (3, 5, 8):
            half = half_of(room)
            kids = {many: 1 for many in range(half, room + 1)}
            total = [1 if many <= room else 0 for many in range(61)]
            while kids:
                rows, grown = {0: 1}, {}
                for many in range(1, room + 1):
                    longer = {}
                    for (one, ways), (other, more) in itertools.product(rows.items(), kids.items()):
                        if one + other <= 60:
                            longer[one + other] = longer.get(one + other, 0) + ways * more
                    rows = longer
                    for pairs, ways in rows.items():
                        if many >= 2:
                            total[pairs] += ways
                        if many >= half:
                            grown[pairs] = grown.get(pairs, 0) + ways
                kids = grown
            self.assertEqual([many_shapes(many, room=room) for many in range(61)], total)

    def test_shapes_of_all_kinds_come_back(self):
        rng = Drawn(6)
        for room in range(3, 9):
            for height in (1, 2, 3):
                for _ in range(10):
                    shape = random_shape(rng, room, height)
                    if pairs_in(shape) <= 60:
                        number = number_of(shape, room=room)
                        self.assertEqual(shape_at(pairs_in(shape), number, room=room), shape)
                    else:
                        with self.assertRaises(TooMany):
                            number_of(shape, room=room)


class RefusalsTest(unittest.TestCase):
    def test_no_room_goes_ahead_of_all(self):
        for room in NO_WHOLE + (2, 9, 10 ** 39, -3):
            for many in (5, 61, None):
                with self.assertRaises(NoRoom):
                    many_shapes(many, room=room)
                for number in (0, -1, "x"):
                    with self.assertRaises(NoRoom):
                        shape_at(many, number, room=room)
            for shape in (5, (2, 2), None, (), (4,) * 400):
                with self.assertRaises(NoRoom):
                    number_of(shape, room=room)

    def test_too_many(self):
        for many in NO_WHOLE + (-1, 61, 10 ** 39, -10 ** 39):
            with self.assertRaises(TooMany):
                many_shapes(many)
            for number in (0, -1, None, "x"):
                with self.assertRaises(TooMany):
                    shape_at(many, number)
        self.assertEqual(many_shapes(0), 1)
        self.assertGreater(many_shapes(60), 1)

    def test_no_number(self):
        for many in (0, 4, 5, 60):
            for number in NO_WHOLE + (-1, many_shapes(many), 10 ** 39, -10 ** 39):
                with self.assertRaises(NoNumber):
                    shape_at(many, number)

    def test_no_shape(self):
        whole = (0, 1, 2, 3, 4, (2, 2))
        for thing in ANYTHING:
            with self.assertRaises(NoShape):
                number_of(thing)
            with self.assertRaises(NoShape):
                number_of((2, thing))
            with self.assertRaises(NoShape):
                number_of(((2, 2), (2, 2, thing)))
        for shape in (5, -1, (1, 2), (2, 1), (5, 2), (2, 5), (2,), (), (2,) * 5, ((2, 2), 2), (2, (2, 2)),
                      ((2,), (2, 2)), ((2, 2), (2, 2, 2, 2, 2)), [2, 2], ([2, 2], [2, 2]), (2, "2"), (2, True),
                      ((2, 2), ((2, 2), (2, 2)))):
            with self.assertRaises(NoShape):
                number_of(shape)
        for number, shape in enumerate(whole):
            self.assertEqual(number_of(shape), 1 if shape == (2, 2) else 0)

    def test_shapes_belong_to_a_room(self):
        self.assertEqual(number_of((2, 2), room=3), 0)
        with self.assertRaises(NoShape):
            number_of((2, 2), room=5)
        with self.assertRaises(NoShape):
            number_of(4, room=3)
        self.assertEqual(number_of(8, room=8), 0)
        with self.assertRaises(NoShape):
            number_of((4, 3), room=7)
        # A root may have fewer kids than other nodes.
        self.assertEqual(number_of(((4, 4, 4, 4), (4, 4, 4, 4)), room=7), many_shapes(32, room=7) - 1)
        with self.assertRaises(NoShape):
            number_of(((4, 4, 4), (4, 4, 4, 4)), room=7)

    def test_no_shape_goes_ahead_of_too_many(self):
        row = (4, 4, 4, 4)
        with self.assertRaises(TooMany):
            number_of((row, row, row, row))
        with self.assertRaises(NoShape):
            number_of((row, row, row, (4, 4, 4, 5)))
        with self.assertRaises(NoShape):
            number_of((row, row, row, row, row))
        with self.assertRaises(NoShape):
            number_of(61)
        # 61 pairs in room 4.
        shape = (row, row, row, (4, 4, 3, 2))
        self.assertEqual(pairs_in(shape), 61)
        with self.assertRaises(TooMany):
            number_of(shape)
        shape = (row, row, row, (4, 4, 2, 2))
        self.assertEqual(shape_at(60, number_of(shape)), shape)

    def test_a_huge_shape_in_a_small_thing(self):
        shape = 8
        for _ in range(10):
            shape = (shape,) * 8
        with self.assertRaises(TooMany):
            number_of(shape, room=8)
        with self.assertRaises(NoShape):
            number_of((shape, shape, (shape,) * 8), room=8)

    def test_nothing_is_changed(self):
        thing = ([2, 2], [3, {}])
        with self.assertRaises(NoShape):
            number_of(thing)
        self.assertEqual(thing, ([2, 2], [3, {}]))
