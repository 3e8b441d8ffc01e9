"""Hands whose deeds are put to a log, and a disk that what falls comes up from."""

from latchgrove.deeds.rows import pages_with_head
from latchgrove.disk.logs import fresh_of, group_of, last_number
from latchgrove.disk.parts import can_reach, many_writes, row_needed, without_first, written
from latchgrove.disk.up import pages_there, up
from latchgrove.errors import NoEvent
from latchgrove.hands.crews import Crew
from latchgrove.hands.steps import COUPLED, need_programs, need_rule
from latchgrove.pages.kinds import is_between, is_row, is_whole
from latchgrove.pages.needs import need_tree

MOST_PARTS = 4
GREATEST_PART = 400


def are_parts(thing):
    """Whether these say where coming up is broken off."""
    if not isinstance(thing, tuple) or len(thing) > MOST_PARTS:
        return False
    return all([is_between(part, 0, GREATEST_PART) for part in thing])


class Works:
    """A tree with its hands, the rows of their deeds, and a disk that has the first of these."""

    def __init__(self, tree, programs, *, rule=COUPLED):
        need_tree(tree)
        need_programs(programs)
        need_rule(rule)
        self.programs = programs
        self.rule = rule
        self.crew = Crew(tree, len(programs))
        self.stored = fresh_of(tree)
        # The rows of the log that are not on the disk.
        self.rest = ()
        # For each hand: how many deeds are behind it, and the number of the record of the one begun.
        self.far = [0 for _ in programs]
        self.going = [None for _ in programs]
        self.records = []
        # By the number of its record, for each deed whose point came: the last row that there was behind it.
        self.come = {}
        self.events = []
        self.ran = []

    def do(self, event):
        """Let the event come; tell what a step tells, else None."""
        if not self.can_come(event):
            raise NoEvent("no such event can come now")
        return self.let_come(event)

    def run(self, events):
        """Let the events come one behind another; what each of them tells."""
        ahead = len(self.events)
        told = []
        for event in events:
            if not self.can_come(event):
                break
            told.append(self.let_come(event))
        self.ran.append((ahead, len(self.events)))
        if len(told) < len(events):
            raise NoEvent("one of the events could not come")
        return tuple(told)

    def runs(self):
        """For each run begun: the events ahead of it, the events behind it."""
        return tuple(self.ran)

    def can_come(self, event):
        """Whether it is an event that can come now, whatever it is."""
        if not is_row(event, 2):
            return False
        word, part = event
        if word == "step":
            return is_between(part, 0, len(self.programs) - 1) and self.can_step(part)
        if word == "log":
            return is_between(part, 1, len(self.rest))
        if word == "page":
            return is_whole(part) and self.mark_for(part) is not None
        if word == "cut":
            return can_reach(self.stored, part) and row_needed(self.stored, part) is None
        return word == "fall" and are_parts(part)

    def let_come(self, event):
        """Let an event come that can; tell what a step tells, else None."""
        word, part = event
        told = None
        if word == "step":
            told = self.step(part)
        elif word == "log":
            self.store_rows(part)
        elif word == "page":
            self.store_page(part)
        elif word == "cut":
            self.stored = without_first(self.stored, part)
        else:
            self.fall(part)
        self.events.append(event)
        return told

    def can_step(self, hand):
        """Whether the hand has a step to do, does not wait, and may tell, if that is next."""
        if self.far[hand] == len(self.programs[hand]) or self.crew.waits(hand):
            return False
        mind = self.crew.minds[hand]
        if mind is None or mind.acts:
            return True
        return self.come[self.going[hand]] <= last_number(self.stored)

    def step(self, hand):
        """Do the next step of a hand that can step; tell it."""
        if self.going[hand] is None:
            self.begin(hand)
        acts = self.crew.minds[hand].acts
        if not acts:
            return self.tell(hand)
        if acts[0][0] == "point":
            return self.come_to_point(hand)
        return self.crew.step(hand)

    def begin(self, hand):
        """Begin the hand's next deed."""
        deed = self.programs[hand][self.far[hand]]
        self.crew.begin(hand, deed, self.rule)
        self.going[hand] = len(self.records)
        self.records.append((deed, None, len(self.events), None))

    def come_to_point(self, hand):
        """Do what the hand's deed does, all at once, and put its rows to the log."""
        ahead = self.tree()
        told = self.crew.step(hand)
        last = last_number(self.stored) + len(self.rest)
        rows = group_of(ahead, self.tree(), last + 1)
        self.rest += rows
        self.come[self.going[hand]] = last + len(rows)
        return told

    def tell(self, hand):
        """Tell the answer of the hand's deed, which is done with that."""
        deed, _, begin, _ = self.records[self.going[hand]]
        answer = self.crew.minds[hand].answer
        self.records[self.going[hand]] = (deed, answer, begin, len(self.events))
        self.crew.minds[hand] = None
        self.go_on(hand)
        return ("answer", answer)

    def go_on(self, hand):
        """The deed that the hand has begun is behind it."""
        self.going[hand] = None
        self.far[hand] += 1

    def store_rows(self, many):
        """So many rows more get to the disk."""
        room, cut, rows, pages = self.stored
        self.stored = (room, cut, rows + self.rest[:many], pages)
        self.rest = self.rest[many:]

    def mark_for(self, number):
        """The number of the page's last row in the log; None where that isn't on the disk, or isn't at all."""
        if any([row[1] == number for row in self.rest]):
            return None
        about = [row[0] for row in self.stored[2] if row[1] == number]
        return about[-1] if about else None

    def store_page(self, number):
        """The page is written to the disk as it is."""
        room, cut, rows, _ = self.stored
        pages = pages_there(self.stored)
        pages[number] = (self.mark_for(number), pages_with_head(self.tree()).get(number))
        self.stored = (room, cut, rows, tuple([(other, *pages[other]) for other in sorted(pages)]))

    def fall(self, parts):
        """What isn't on the disk is lost, which comes up, broken off behind each of the parts, then whole."""
        last = last_number(self.stored)
        self.come = {number: row for number, row in self.come.items() if row <= last}
        for part in (*parts, many_writes(self.stored)):
            self.stored = written(self.stored, part)
        self.rest = ()
        self.crew = Crew(up(self.stored), len(self.programs))
        for hand in range(len(self.programs)):
            if self.going[hand] is not None:
                self.go_on(hand)

    def can(self):
        """The hands that can step, rising."""
        return tuple([hand for hand in range(len(self.programs)) if self.can_step(hand)])

    def tree(self):
        """The tree as it is now."""
        return self.crew.book.tree()

    def disk(self):
        """The disk as it is now."""
        return self.stored

    def history(self):
        """(deed, answer, begin, end) of each deed begun, as they began."""
        return tuple(self.records)

    def points(self):
        """The numbers in the history of the deeds whose point came and is not lost, by their points."""
        return tuple(self.come)

    def state(self):
        """All that makes two of these equal."""
        return (self.can(), self.tree(), self.stored, self.history(), self.points())

    def __eq__(self, other):
        """Whether other are works that tell alike what can step, the tree, the disk, history and points."""
        if not isinstance(other, Works):
            return False
        return self.state() == other.state()

    def __len__(self):
        """How many events came."""
        return len(self.events)
