import unittest

from latchgrove.pages.trees import is_tree
from tests.helpers import ANYTHING, Drawn, built, random_tree, with_page, with_pages

# Root 7: keys below 30 in page 3, below 60 in page 9, from 60 on in page 5.
SMALL = (4, 7, (
    (3, ("leaf", ((10, 1), (20, 2)), 9)),
    (5, ("leaf", ((60, 5), (70, 6), (80, 7)), 0)),
    (7, ("node", (30, 60), (3, 9, 5))),
    (9, ("leaf", ((30, 3), (40, 4)), 5)),
))
# Three levels, room 3.
TALL = built(3, ((2, 3), (2, 2, 3)), range(1, 9), range(0, 120, 10))


class SoundTreesTest(unittest.TestCase):
    def sound(self, tree):
        self.assertIs(is_tree(tree), True, tree)

    def test_examples(self):
        self.sound(SMALL)
        self.sound(TALL)

    def test_roots_that_are_leaves(self):
        for room in range(3, 9):
            for many in range(room + 1):
                self.sound((room, 10 ** 6, ((10 ** 6, ("leaf", tuple((k, k) for k in range(many)), 0)),)))

    def test_any_sound_tree(self):
        rng = Drawn(1)
        for room in range(3, 9):
            for height in (1, 2, 3, 4):
                for _ in range(15 if height < 4 else 2):
                    self.sound(random_tree(rng, room, height))

    def test_bounds_of_all(self):
        top = 10 ** 9
        self.sound((3, 1, ((1, ("leaf", ((0, 0), (1, top), (top, 0)), 0)),)))
        self.sound((3, 10 ** 6, ((1, ("leaf", ((0, top), (1, 1)), 2)), (2, ("leaf", ((5, 1), (top, 0)), 0)),
                                 (10 ** 6, ("node", (5,), (1, 2))))))

    def test_a_nodes_key_need_not_be_one_of_a_pair(self):
        for key in range(21, 31):
            self.sound(with_page(SMALL, 7, ("node", (key, 60), (3, 9, 5))))

    def test_as_many_parts_as_a_room_lets(self):
        for room, half in ((3, 2), (4, 2), (5, 3), (6, 3), (7, 4), (8, 4)):
            for kids in range(2, room + 1):
                for size in (half, room):
                    shape = (size,) * kids
                    self.sound(built(room, shape, range(1, kids + 2), range(size * kids)))
            for size in (half - 1, room + 1):
                self.assertIs(is_tree(built(room, (size, half), range(1, 4), range(40))), False)
                self.assertIs(is_tree(built(room, (half, size), range(1, 4), range(40))), False)
            for kids in (1, room + 1):
                tree = built(room, (half,) * kids, range(1, kids + 2), range(90))
                self.assertIs(is_tree(tree), False)
            for kids in (half - 1, room + 1):
                shape = ((half,) * kids, (half,) * half)
                self.assertIs(is_tree(built(room, shape, range(1, 40), range(90))), False)
                self.assertIs(is_tree(built(room, shape[::-1], range(1, 40), range(90))), False)
            tree = (room, 1, ((1, ("leaf", tuple((k, k) for k in range(room + 1)), 0)),))
            self.assertIs(is_tree(tree), False)


class BrokenWordsTest(unittest.TestCase):
    def broken(self, tree):
        self.assertIs(is_tree(tree), False, tree)

    def test_room(self):
        for room in (2, 9, 0, -4, None, "4", (4,), 10 ** 30, True):
            self.broken((room,) + SMALL[1:])

    def test_root(self):
        for root in (0, 8, 3, 5, -7, None, "7", (7,), [7], True, 10 ** 30):
            self.broken((4, root, SMALL[2]))
        one = (4, 1, ((1, ("leaf", (), 0)),))
        self.assertIs(is_tree(one), True)
        self.broken((4, True, one[2]))

    def test_the_three_parts(self):
        self.broken(SMALL[:2])
        self.broken(SMALL + (0,))
        self.broken(list(SMALL))
        self.broken((4, 7, list(SMALL[2])))
        self.broken((4, 7, dict(SMALL[2])))
        self.broken((4, 7, ()))
        self.broken((4, 7, None))

    def test_pages_missing_twice_or_beside(self):
        for number in (3, 5, 7, 9):
            self.broken(with_pages(SMALL, [part for part in SMALL[2] if part[0] != number]))
        self.broken(with_pages(SMALL, SMALL[2] + ((11, ("leaf", ((90, 1), (91, 1)), 0)),)))
        self.broken(with_pages(SMALL, SMALL[2] + ((11, ("node", (40,), (3, 9))),)))
        self.broken(with_pages(SMALL, SMALL[2] + (SMALL[2][-1],)))
        self.broken(with_page(SMALL, 7, ("node", (30, 60), (3, 9, 9))))
        self.broken(with_page(SMALL, 7, ("node", (30, 60), (3, 9, 7))))
        self.broken(with_page(SMALL, 7, ("node", (30, 60), (3, 9, 6))))
        self.broken(with_page(SMALL, 7, ("node", (30, 60), (3, 9, 0))))

    def test_pages_that_do_not_rise(self):
        pages = SMALL[2]
        self.broken(with_pages(SMALL, pages[::-1]))
        self.broken(with_pages(SMALL, (pages[1], pages[0]) + pages[2:]))
        self.broken(with_pages(SMALL, pages[:2] + (pages[3], pages[2])))

    def test_numbers_of_pages(self):
        def renamed(number):
            leaf = (number, SMALL[2][0][1])
            pages = [leaf] + list(SMALL[2][1:])
            pages = sorted(pages, key=lambda part: part[0] if isinstance(part[0], int) else 0)
            pages = [(one, ("node", (30, 60), (number, 9, 5)) if one == 7 else page) for one, page in pages]
            return with_pages(SMALL, pages)

        self.assertIs(is_tree(renamed(10 ** 6)), True)
        self.assertIs(is_tree(renamed(1)), True)
        for number in (0, -1, 10 ** 6 + 1, 10 ** 39, True, None, "3", (3,), [3], {}):
            self.broken(renamed(number))

    def test_a_page_with_its_number_is_a_tuple_of_two(self):
        first, rest = SMALL[2][0], SMALL[2][1:]
        for part in (list(first), first + (0,), first[:1], first[1], None, 3, "ab", {}):
            self.broken(with_pages(SMALL, (part,) + rest))

    def test_kinds_of_a_page(self):
        leaf, node = SMALL[2][0][1], SMALL[2][2][1]
        for page in (None, (), 3, "leaf", leaf[:2], leaf + (0,), list(leaf), ("Leaf",) + leaf[1:],
                     (None,) + leaf[1:], (["leaf"],) + leaf[1:], ("node",) + leaf[1:], (0,) + leaf[1:]):
            self.broken(with_page(SMALL, 3, page))
        for page in (None, node[:2], node + (0,), list(node), ("leaf",) + node[1:], ("nodes",) + node[1:],
                     ("node", list(node[1]), node[2]), ("node", node[1], list(node[2])),
                     ("node", None, node[2]), ("node", node[1], None), ("node", (), ()), ("node", 3, 4),
                     ("node", {30: 1, 60: 2}, node[2]), ("node", "ab", node[2]), ("node", node[1], "abc")):
            self.broken(with_page(SMALL, 7, page))

    def test_a_root_of_no_kind(self):
        for kind in ("nodes", "", "Leaf", None, 0, ("leaf",)):
            for rest in (((5,), (1, 1)), ((5,), (2, 3)), ((), (1,)), ((), 0), (((5, 5),), 0)):
                self.broken((4, 1, ((1, (kind,) + rest),)))

    def test_a_node_has_one_key_fewer_than_kids(self):
        for page in (("node", (30,), (3, 9, 5)), ("node", (30, 60, 90), (3, 9, 5)), ("node", (), (3, 9, 5)),
                     ("node", (30, 60), (3, 9))):
            self.broken(with_page(SMALL, 7, page))

    def test_keys_of_nodes(self):
        for keys in ((60, 30), (30, 30), (60, 60), (30, None), (30, "60"), (30, True), (True, 60), ((30,), 60),
                     (-1, 60), (30, 10 ** 9 + 1), (30, [60]), (10 ** 39, 60)):
            self.broken(with_page(SMALL, 7, ("node", keys, (3, 9, 5))))

    def test_a_key_of_a_node_beyond_the_bounds(self):
        tree = (3, 3, ((1, ("leaf", ((1, 1), (2, 2)), 2)), (2, ("leaf", ((3, 1), (10 ** 9, 0)), 0)),
                       (3, ("node", (3,), (1, 2)))))
        self.assertIs(is_tree(tree), True)
        self.broken(with_page(tree, 3, ("node", (10 ** 9 + 1,), (1, 2))))
        self.broken(with_page(tree, 3, ("node", (-1,), (1, 2))))

    def test_kids_that_are_no_numbers(self):
        for kids in ((3, 9, None), (3, 9, "5"), (3, 9, (5,)), (3, 9, [5]), (3, 9, {}), (True, 9, 5), (3, 9, -5)):
            self.broken(with_page(SMALL, 7, ("node", (30, 60), kids)))
        one = built(4, (2, 2), (9, 1, 2), (1, 2, 3, 4))
        self.assertIs(is_tree(one), True)
        self.broken(with_page(one, 9, ("node", (3,), (True, 2))))

    def test_pairs_of_leaves(self):
        for pairs in (((20, 2), (10, 1)), ((10, 1), (10, 2)), ((10, 1), (10, 1)), ((20, 2), (20, 3)), ((10, 1),),
                      ((10, 1), (20,)), ((10, 1), (20, 2, 2)), ((10, 1), [20, 2]), ((10, 1), None), ((10, 1), 20),
                      [(10, 1), (20, 2)], {10: 1, 20: 2}, None, 2, "ab", ((10, 1), "ab"), ((10, 1), ("20", 2)),
                      ((10, 1), (20, "2")), ((10, 1), (20, None)), ((10, 1), (None, 2)), ((True, 1), (20, 2)),
                      ((10, True), (20, 2)), ((10, 1), (20, False)), ((False, 1), (20, 2)), ((-1, 1), (20, 2)),
                      ((10, -1), (20, 2)), ((10, 10 ** 9 + 1), (20, 2)), ((10, 1), (20, 10 ** 39)),
                      ((10, 1), (20, (2,))), ((10, 1), ([20], 2)), ()):
            self.broken(with_page(SMALL, 3, ("leaf", pairs, 9)))
        for pairs in (((60, 1), (10 ** 9 + 1, 1)), ((60, 1), (10 ** 39, 1))):
            self.broken(with_page(SMALL, 5, ("leaf", pairs, 0)))

    def test_the_root_leaf_word_by_word(self):
        for pairs in (((2, 1), (1, 1)), ((1, 1), (1, 2)), ((1, 1, 1),), ([1, 1],), ((True, 1),), ((1, True),),
                      ((-1, 1),), ((1, -1),), ((10 ** 9 + 1, 1),), ((1, 10 ** 9 + 1),), [(1, 1)], None):
            self.broken((4, 1, ((1, ("leaf", pairs, 0)),)))
        for right in (1, 2, None, False, -1, "0", (0,), 10 ** 6 + 1):
            self.broken((4, 1, ((1, ("leaf", ((1, 1),), right)),)))

    def test_keys_on_the_wrong_side(self):
        for number, pairs in ((3, ((10, 1), (30, 2))), (3, ((10, 1), (35, 2))), (9, ((29, 3), (40, 4))),
                              (9, ((30, 3), (60, 4))), (5, ((59, 5), (70, 6))), (9, ((10, 3), (40, 4))),
                              (9, ((30, 3), (90, 4)))):
            page = dict(SMALL[2])[number]
            self.broken(with_page(SMALL, number, ("leaf", pairs, page[2])))
        for keys in ((10, 60), (20, 60), (31, 60), (30, 40), (30, 61)):
            self.broken(with_page(SMALL, 7, ("node", keys, (3, 9, 5))))

    def test_keys_on_the_wrong_side_of_a_key_far_above(self):
        # The root's key 50 parts its kids, whose own keys then bound the leaves' other sides.
        pages = dict(TALL[2])
        self.assertEqual(pages[1], ("node", (50,), (2, 5)))
        self.assertEqual(pages[4], ("leaf", ((20, 20), (30, 30), (40, 40)), 6))
        self.assertEqual(pages[6], ("leaf", ((50, 50), (60, 60)), 7))
        self.broken(with_page(TALL, 4, ("leaf", ((20, 20), (30, 30), (50, 40)), 6)))
        self.broken(with_page(TALL, 6, ("leaf", ((49, 50), (60, 60)), 7)))
        self.broken(with_page(TALL, 1, ("node", (40,), (2, 5))))
        self.broken(with_page(TALL, 1, ("node", (51,), (2, 5))))
        self.assertIs(is_tree(with_page(TALL, 1, ("node", (41,), (2, 5)))), True)
        self.broken(with_page(TALL, 2, ("node", (55,), (3, 4))))
        self.broken(with_page(TALL, 5, ("node", (45, 90), (6, 7, 8))))
        self.broken(with_page(TALL, 1, ("node", (50,), (5, 2))))

    def test_leaves_not_equally_deep(self):
        leaf = ("leaf", ((100, 1), (110, 1)), 0)
        tree = (3, 1, ((1, ("node", (40,), (2, 5))), (2, ("node", (20,), (3, 4))),
                       (3, ("leaf", ((0, 0), (10, 0)), 4)), (4, ("leaf", ((20, 0), (30, 0)), 5)), (5, leaf)))
        self.broken(tree)
        tree = (3, 1, ((1, ("node", (40,), (5, 2))), (2, ("node", (60,), (3, 4))),
                       (3, ("leaf", ((40, 0), (50, 0)), 4)), (4, ("leaf", ((60, 0), (70, 0)), 0)),
                       (5, ("leaf", ((0, 0), (10, 0)), 3))))
        self.broken(tree)

    def test_nexts(self):
        for number, rights in ((3, (0, 3, 5, 7, 8, True, None, "9", (9,), 10)), (9, (0, 3, 7, 9)),
                               (5, (3, 5, 7, 9, False, None, -1, ()))):
            page = dict(SMALL[2])[number]
            for right in rights:
                self.broken(with_page(SMALL, number, page[:2] + (right,)))
        one = built(4, (2, 2), (9, 2, 1), (1, 2, 3, 4))
        self.assertIs(is_tree(one), True)
        self.broken(with_page(one, 2, dict(one[2])[2][:2] + (True,)))


class AnythingTest(unittest.TestCase):
    def test_of_anything(self):
        for thing in ANYTHING:
            self.assertIs(is_tree(thing), False, thing)
            self.assertIs(is_tree((thing, thing, thing)), False)
            for place in range(3):
                tree = list(SMALL)
                tree[place] = thing
                if tree != list(SMALL):
                    self.assertIs(is_tree(tuple(tree)), False, tree)

    def test_anything_in_each_place_of_a_page(self):
        for thing in ANYTHING:
            self.assertIs(is_tree(with_pages(SMALL, SMALL[2] + (thing,))), False)
            self.assertIs(is_tree(with_pages(SMALL, SMALL[2] + ((thing, thing),))), False)
            self.assertIs(is_tree(with_pages(SMALL, SMALL[2] + ((12, thing),))), False)
            for number in (3, 7):
                page = dict(SMALL[2])[number]
                for place in range(3):
                    parts = list(page)
                    parts[place] = thing
                    if parts != list(page):
                        self.assertIs(is_tree(with_page(SMALL, number, tuple(parts))), False, parts)
                for part in (1, 2) if number == 7 else (1,):
                    if number == 3 and thing == (1, 2):
                        continue  # which is a pair
                    for place in range(len(page[part])):
                        row = list(page[part])
                        row[place] = thing
                        parts = list(page)
                        parts[part] = tuple(row)
                        self.assertIs(is_tree(with_page(SMALL, number, tuple(parts))), False, parts)

    def test_rings(self):
        self.assertIs(is_tree((4, 1, ((1, ("node", (5,), (1, 1))),))), False)
        self.assertIs(is_tree((4, 1, ((1, ("node", (5,), (2, 3))), (2, ("node", (3,), (1, 3))),
                                      (3, ("node", (7,), (1, 2)))))), False)
        # A ring beside the tree, which nobody comes to from the root.
        self.assertIs(is_tree(with_pages(SMALL, SMALL[2] + ((11, ("node", (5,), (12, 12))),
                                                           (12, ("node", (5,), (11, 11)))))), False)
        self.assertIs(is_tree(with_page(TALL, 5, ("node", (70, 90), (6, 7, 1)))), False)
        # A long one, deeper than Python's own stack is: page n leads to n + 1, the last one to the first.
        pages = tuple((n, ("node", (5,), (n % 400 + 1, n % 400 + 1))) for n in range(1, 401))
        self.assertIs(is_tree((4, 1, pages)), False)
        pages = tuple((n, ("node", (), (n + 1,))) for n in range(1, 4000)) + ((4000, ("leaf", (), 0)),)
        self.assertIs(is_tree((4, 1, pages)), False)

    def test_nothing_is_changed(self):
        thing = [4, 7, [(1, ["leaf", [], 0])]]
        self.assertIs(is_tree(thing), False)
        self.assertEqual(thing, [4, 7, [(1, ["leaf", [], 0])]])


class RandomBreaksTest(unittest.TestCase):
    """A sound tree with one number changed is a tree just where a slow look at each word says so."""

    def slow(self, tree):
        room, root, numbered = tree
        pages = dict(numbered)
        half = (room + 1) // 2
        come_to, leaves = [], []

        def down(number, depth, low, high):
            if number in come_to or number not in pages or depth > 10:
                return False
            come_to.append(number)
            kind, first, second = pages[number]
            many = len(first) if kind == "leaf" else len(second)
            least = (0 if kind == "leaf" else 2) if number == root else half
            if not least <= many <= room:
                return False
            keys = [pair[0] for pair in first] if kind == "leaf" else list(first)
            if sorted(set(keys)) != keys or any(not 0 <= key <= 10 ** 9 for key in keys):
                return False
            if kind == "leaf":
                leaves.append((number, depth, second))
                return all(low <= key < high for key in keys)
            sides = [low] + keys + [high]
            return all(down(kid, depth + 1, max(low, sides[k]), min(high, sides[k + 1]))
                       for k, kid in enumerate(second))

        if not down(root, 1, 0, 10 ** 9 + 1) or sorted(come_to) != [number for number, _ in numbered]:
            return False
        nexts = [number for number, _, _ in leaves[1:]] + [0]
        return len({depth for _, depth, _ in leaves}) == 1 and [right for _, _, right in leaves] == nexts

    def test_one_number_changed(self):
        rng = Drawn(2)
        told = {True: 0, False: 0}
        for turn in range(600):
            tree = random_tree(rng, rng.randint(3, 8), rng.randint(1, 3), 400)
            number, page = rng.choice(tree[2])
            kind, first, second = page
            if kind == "leaf" and first and rng.random() < 0.7:
                pairs = [list(pair) for pair in first]
                pairs[rng.randrange(len(pairs))][0] += rng.choice((-9, -3, -1, 1, 3, 9))
                page = (kind, tuple(tuple(pair) for pair in pairs), second)
            elif kind == "leaf":
                page = (kind, first, rng.choice([0] + [one for one, _ in tree[2]]))
            elif rng.random() < 0.7:
                keys = list(first)
                keys[rng.randrange(len(keys))] += rng.choice((-9, -3, -1, 1, 3, 9))
                page = (kind, tuple(keys), second)
            else:
                kids = list(second)
                kids[rng.randrange(len(kids))] = rng.choice(tree[2])[0]
                page = (kind, first, tuple(kids))
            changed = with_page(tree, number, page)
            told[self.slow(changed)] += 1
            self.assertIs(is_tree(changed), self.slow(changed), changed)
        self.assertGreater(min(told.values()), 50)
