"""What one hand has in mind while it does a deed, and what it does next behind each page that it has."""

from latchgrove.deeds.drops import drop_in, drop_is_safe
from latchgrove.deeds.maps import pairs_within
from latchgrove.deeds.puts import put_in, put_is_safe
from latchgrove.hands.steps import COUPLED, HOPEFUL, LOOSE
from latchgrove.pages.books import kid_place, mate_in, value_in

HEAD = 0
LOST = "lost"


class Mind:
    """One deed on its way: the acts that come next, the pages kept, what was read.

    An act is ("take", page, alone, goal), ("let", page) or ("point",). A goal says what the page
    is taken as: "head", "way", "mate", "again" (behind its mate) or "next" (the leaf to the right).
    """

    def __init__(self, deed, rule):
        self.deed = deed
        self.writes = deed[0] in ("put", "drop")
        self.rule = rule_of(deed, rule)
        # How many levels are ahead of a hopeful one, which must know its leaf before it takes it.
        self.levels = None
        self.acts = [("take", HEAD, self.writes and self.rule == COUPLED, "head")]
        # In the order in which they were taken, which is by rank.
        self.kept = []
        self.read = ()
        self.answer = None

    def all_told(self):
        """All that this one has in mind, to be laid beside another's."""
        return (self.rule, self.levels, tuple(self.acts), tuple(self.kept), self.read, self.answer)

    def copied(self):
        """A mind like this one, that goes on by itself."""
        other = Mind(self.deed, self.rule)
        other.levels = self.levels
        other.acts = list(self.acts)
        other.kept = list(self.kept)
        other.read = self.read
        other.answer = self.answer
        return other

    def let_all_above(self):
        """Let next whatever is kept but the page had last."""
        self.acts += [("let", page) for page in self.kept[:-1]]

    def let_all(self):
        """Let next whatever is kept."""
        self.acts += [("let", page) for page in self.kept]

    def had(self, book):
        """The page of the act ahead is had: find out what comes next."""
        _, page, _, goal = self.acts.pop(0)
        self.kept.append(page)
        if goal == "head":
            head_had(self, book)
        elif goal == "next":
            next_had(self, book, page)
        elif goal == "way" and self.rule == LOOSE:
            loosely_had(self, book, page)
        elif goal == "way" and self.rule == HOPEFUL:
            hopefully_had(self, book, page)
        elif goal == "way":
            way_had(self, book, page)

    def let(self):
        """The page of the act ahead is let; behind the last one the deed has no acts ahead."""
        _, page = self.acts.pop(0)
        self.kept.remove(page)

    def come_to_point(self, book):
        """Do in the book what the deed does, all at once; let next whatever is kept."""
        self.acts.pop(0)
        word, key = self.deed[0], self.deed[1]
        if word == "put":
            self.answer = put_in(book, key, self.deed[2])
        elif word == "drop":
            self.answer = drop_in(book, key)
        elif word == "walk":
            self.answer = self.read
        elif word == "span":
            self.answer = tuple([pair for page in self.kept for pair in pairs_for(self, book.pages[page])])
        elif self.read != LOST:
            self.answer = value_in(book.pages[self.kept[-1]][1], key)
        else:
            self.answer = LOST
        self.let_all()


def rule_of(deed, rule):
    """The rule that the deed begins by: hopeful are puts and drops alone, loose are finds alone."""
    if rule == HOPEFUL and deed[0] in ("put", "drop") or rule == LOOSE and deed[0] == "find":
        return rule
    return COUPLED


def take_way(mind, page):
    """Take next a page of the way; a hopeful one takes just the leaf alone."""
    alone = mind.writes
    if mind.rule == HOPEFUL:
        alone = mind.levels == 1
        mind.levels -= 1
    mind.acts.append(("take", page, alone, "way"))


def pairs_for(mind, leaf):
    """The leaf's pairs that are in the deed's stretch."""
    return pairs_within(leaf[1], mind.deed[1], mind.deed[2])


def head_had(mind, book):
    """The head is had: the root is next."""
    if mind.rule == LOOSE:
        mind.let_all()
    if mind.rule == HOPEFUL:
        mind.levels = len(book.way(mind.deed[1]))
    take_way(mind, book.root)


def go_down(mind, page):
    """Behind a node take its kid on the way, in a leaf come to the point."""
    if page[0] == "node":
        _, keys, kids = page
        take_way(mind, kids[kid_place(keys, mind.deed[1])])
    elif mind.deed[0] in ("span", "walk"):
        go_right(mind, page)
    else:
        mind.acts.append(("point",))


def go_right(mind, leaf):
    """Take the next leaf, where the stretch may go on there, else come to the point."""
    _, pairs, right = leaf
    if mind.deed[0] == "walk":
        mind.read += pairs_for(mind, leaf)
    if right == 0 or pairs and pairs[-1][0] >= mind.deed[2]:
        mind.acts.append(("point",))
    else:
        mind.acts.append(("take", right, False, "next"))


def next_had(mind, book, number):
    """The leaf to the right is had: a walk lets the one behind."""
    if mind.deed[0] == "walk":
        mind.let_all_above()
    go_right(mind, book.pages[number])


def loosely_had(mind, book, number):
    """A page is had without the one above, and may be gone, or another than was meant."""
    page = book.pages.get(number)
    if page is None:
        mind.read = LOST
        mind.acts.append(("point",))
        return
    if page[0] == "node":
        mind.let_all()
    go_down(mind, page)


def hopefully_had(mind, book, number):
    """A page is had shared, or the leaf alone; where that is not safe the deed goes on anew."""
    mind.let_all_above()
    page = book.pages[number]
    if page[0] == "node" or is_safe(mind, book, number):
        go_down(mind, page)
        return
    mind.rule = COUPLED
    mind.levels = None
    mind.acts += [("let", number), ("take", HEAD, True, "head")]


def is_safe(mind, book, number):
    """Whether the page is safe for the deed, which is a put or a drop."""
    if mind.deed[0] == "put":
        return put_is_safe(book, number, mind.deed[1])
    return drop_is_safe(book, number, mind.deed[1])


def way_had(mind, book, number):
    """A page of the way is had, coupled with those above."""
    if not mind.writes or is_safe(mind, book, number):
        mind.let_all_above()
    elif mind.deed[0] == "drop" and number != book.root:
        take_mate(mind, book, number)
    go_down(mind, book.pages[number])


def take_mate(mind, book, number):
    """Take the page's mate beside it; for one on the left the page is let and taken again behind it."""
    kids = book.pages[book.elder(number)][2]
    mate = mate_in(kids, number)
    taken = ("take", mate, True, "mate")
    if kids.index(mate) > kids.index(number):
        mind.acts.append(taken)
    else:
        mind.acts += [("let", number), taken, ("take", number, True, "again")]
