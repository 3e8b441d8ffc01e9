"""Things that many tests share; nothing here calls the package."""

# Of anything: what [1] says may be handed in where a refusal is told.
DEEP, DEEP_ROW = 1, (2, 2)
for _ in range(3):
    DEEP = ([{"deep": DEEP}],)
    DEEP_ROW = (((DEEP_ROW,),),)

ANYTHING = (
    None, True, False, -1, 10 ** 39, -10 ** 39, "", "1", "leaf", "a text", (), (1,), (1, 2), (1, 2, 3),
    [], [1, 2], {}, {"a": 1}, {1: (2, 3)}, (None, None), ((), ()), [()], ([],), ({},), (True, False),
    ("leaf", (), 0), (4, 1, ()), (4, 1, [(1, ("leaf", (), 0))]), DEEP, DEEP_ROW, (DEEP, DEEP_ROW),
)
NO_WHOLE = tuple(thing for thing in ANYTHING if type(thing) is not int)

# What tests draw from: written once, so that each run of a test draws the same.
NUMBERS = (
    271828, 182845, 904523, 536028, 747135, 266249, 775724, 709369, 995957, 496696, 762772, 407663, 35354, 759457,
    138217, 852516, 642742, 746639, 193200, 305992, 181741, 359662, 904357, 290033, 429526, 59563, 73813, 232862,
    794349, 76323, 382988, 75319, 525101, 901157, 383418, 793070, 215408, 914993, 488416, 750924, 476146, 66808,
    226480, 16847, 741185, 374234, 544243, 710753, 907774, 499206, 955170, 276183, 860626, 133138, 458300, 75204,
    493382, 656029,
)


class Drawn:
    """Draws numbers by the written list: each stirs what the ones ahead of it left."""

    def __init__(self, seed):
        self.seed, self.at = seed + 1, 0

    def below(self, many):
        if many > 10 ** 9:
            return (self.below(many // 10 ** 9 + 1) * 10 ** 9 + self.below(10 ** 9)) % many
        self.at += 1
        self.seed = (self.seed * 1103515 + NUMBERS[self.at % len(NUMBERS)] + self.at // len(NUMBERS)) % (2 ** 61 - 1)
        return self.seed // 1009 % many

    def random(self):
        return self.below(10 ** 6) / 10 ** 6

    def randint(self, low, high):
        return low + self.below(high - low + 1)

    def randrange(self, many):
        return self.below(many)

    def choice(self, things):
        return things[self.below(len(things))]

    def shuffle(self, things):
        for at in range(len(things) - 1, 0, -1):
            other = self.below(at + 1)
            things[at], things[other] = things[other], things[at]

    def sample(self, things, many):
        places = {}
        while len(places) < many:
            places[self.below(len(things))] = True
        return [things[place] for place in places]


def outcome(function, *arguments, **named):
    """What a call tells, or the class of what it raises."""
    try:
        return ("told", function(*arguments, **named))
    except ValueError as error:
        return ("raised", type(error))


def numbers_in(tree):
    return tuple(number for number, _ in tree[2])


def with_page(tree, number, page):
    """The tree with another page at this number."""
    room, root, pages = tree
    return (room, root, tuple((one, page if one == number else old) for one, old in pages))


def with_pages(tree, pages):
    return (tree[0], tree[1], tuple(pages))


def half_of(room):
    return {3: 2, 4: 2, 5: 3, 6: 3, 7: 4, 8: 4}[room]


def random_shape(rng, room, height, least=None):
    """A shape of this height, of a tree of this room, unless least says that it is a kid's."""
    if height == 1:
        return rng.randint(0 if least is None else least, room)
    many = rng.randint(2 if least is None else least, room)
    return tuple(random_shape(rng, room, height - 1, half_of(room)) for _ in range(many))


def pairs_in(shape):
    return shape if isinstance(shape, int) else sum(pairs_in(kid) for kid in shape)


def built(room, shape, numbers, keys, rng=None):
    """A tree of this shape: its pages' numbers are handed out as one goes down, kids before
    their elder's later kids; with rng node keys lie anywhere that the words of [3] let them.
    """
    numbers, keys, pages, leaves = list(numbers), list(keys), {}, []

    def lay(part):
        number = numbers.pop(0)
        if isinstance(part, int):
            mine = [keys.pop(0) for _ in range(part)]
            pages[number] = ["leaf", tuple((key, key % 97) for key in mine), 0]
            leaves.append(number)
            return number, mine
        laid = [lay(kid) for kid in part]
        between = []
        for (_, left), (_, right) in zip(laid, laid[1:]):
            between.append(rng.randint(left[-1] + 1, right[0]) if rng else right[0])
        pages[number] = ["node", tuple(between), tuple(kid for kid, _ in laid)]
        return number, [key for _, mine in laid for key in mine]

    root, _ = lay(shape)
    for left, right in zip(leaves, leaves[1:]):
        pages[left][2] = right
    return (room, root, tuple((number, tuple(pages[number])) for number in sorted(pages)))


def pages_in(shape):
    return 1 if isinstance(shape, int) else 1 + sum(pages_in(kid) for kid in shape)


def random_tree(rng, room, height, greatest=10 ** 9):
    """A sound tree of this height, of 400 pages at most, with its numbers and keys anywhere."""
    shape = random_shape(rng, room, height)
    while pages_in(shape) > 400:
        shape = random_shape(rng, room, height)
    numbers = rng.sample(range(1, rng.choice((1000, 10 ** 6)) + 1), pages_in(shape))
    keys = sorted(rng.sample(range(0, greatest + 1), pairs_in(shape)))
    return built(room, shape, numbers, keys, rng)


def random_deed(rng, greatest, words=("find", "put", "put", "drop", "drop", "span", "walk")):
    """A deed of one of these words, of keys from 0 to greatest."""
    word, key = rng.choice(words), rng.randint(0, greatest)
    if word == "put":
        return (word, key, rng.randint(0, 9))
    if word in ("span", "walk"):
        return (word, key, rng.randint(key + 1, greatest + 1))
    return (word, key)


def plan_of(words):
    """A plan written as "+5" (takes page 5 shared), "*5" (alone), "-5" (lets it)."""
    return tuple(("let", int(word[1:])) if word[0] == "-" else ("take", int(word[1:]), word[0] == "*")
                 for word in words.split())


def random_plans(draw, many, pages, steps, rising=False):
    """Plans of at most so many steps; rising ones take each page above all that they hold."""
    plans = []
    for _ in range(many):
        plan, held = [], []
        for _ in range(draw.randint(0, steps)):
            page = draw.randint(0, pages - 1)
            if page in held:
                held.remove(page)
                plan.append(("let", page))
            elif len(plan) + len(held) + 2 <= steps and not (rising and held and page < max(held)):
                held.append(page)
                plan.append(("take", page, draw.randint(0, 1) == 1))
        while held:
            plan.append(("let", held.pop(draw.randint(0, len(held) - 1))))
        plans.append(tuple(plan))
    return tuple(plans)


def tree_of(room, root, leaves, nodes=None):
    """A tree of leaves from left to right, {number: keys}, values being keys, and nodes, {number: kids},
    each ahead of the one that it is beneath; a node's key is the first one beneath the kid on its right.
    """
    pages, firsts, row = {}, {}, list(leaves)
    for number, right in zip(row, row[1:] + [0]):
        pages[number] = ("leaf", tuple((key, key) for key in leaves[number]), right)
        firsts[number] = leaves[number][0] if leaves[number] else None
    for number, kids in (nodes or {}).items():
        pages[number] = ("node", tuple(firsts[kid] for kid in kids[1:]), tuple(kids))
        firsts[number] = firsts[kids[0]]
    return (room, root, tuple(sorted(pages.items())))
