"""Hands that do their deeds in steps at one tree, under latches."""

from latchgrove.errors import NoHand
from latchgrove.hands.crews import Crew
from latchgrove.hands.steps import COUPLED, need_programs, need_rule
from latchgrove.pages.kinds import is_between
from latchgrove.pages.needs import need_tree
from latchgrove.pages.trees import empty


class Hands:
    """A tree, and for each hand its program, how far it is, and what it has in mind."""

    def __init__(self, tree, programs, *, rule=COUPLED):
        need_tree(tree)
        need_programs(programs)
        need_rule(rule)
        self.programs = programs
        self.rule = rule
        self.crew = Crew(tree, len(programs))
        self.told = [[] for _ in programs]
        # For each hand and each deed begun by it: how many deeds each hand had done by then.
        self.ahead = [[] for _ in programs]
        self.begins = [None for _ in programs]
        self.many_steps = 0
        self.come = []
        self.ended = []
        self.ran = []

    def step(self, hand):
        """Do the hand's next step and tell it; None, and no step, where the hand can't."""
        if not self.can_step(hand):
            return None
        if self.crew.minds[hand] is None:
            self.begin(hand)
        mind = self.crew.minds[hand]
        told = self.crew.step(hand)
        if told[0] == "point":
            self.come.append((hand, mind.deed, mind.answer))
        elif not mind.acts:
            self.end(hand)
        self.many_steps += 1
        return told

    def begin(self, hand):
        """Begin the hand's next deed."""
        self.crew.begin(hand, self.programs[hand][len(self.told[hand])], self.rule)
        self.begins[hand] = self.many_steps
        self.ahead[hand].append(tuple([len(answers) for answers in self.told]))

    def end(self, hand):
        """The hand's deed is done with the step that is going on."""
        mind = self.crew.minds[hand]
        self.told[hand].append(mind.answer)
        self.ended.append((hand, mind.deed, mind.answer, self.begins[hand], self.many_steps))
        self.crew.minds[hand] = None

    def run(self, weaving):
        """Let the hands of the weaving step one behind another; what each step tells."""
        ahead = self.many_steps
        told = []
        for hand in weaving:
            if not self.has_hand(hand):
                break
            told.append(self.step(hand))
        self.ran.append((ahead, self.many_steps))
        if len(told) < len(weaving):
            raise NoHand("the weaving has what is no hand of these")
        return tuple(told)

    def runs(self):
        """For each run begun: the steps ahead of it, the steps behind it."""
        return tuple(self.ran)

    def tree(self):
        """The tree as it is now."""
        return self.crew.book.tree()

    def latches(self):
        """A copy of the latches as they are now."""
        return self.crew.table.copied()

    def can_step(self, hand):
        """Whether the hand is not through and does not wait."""
        return not self.is_through(hand) and not self.crew.waits(hand)

    def is_through(self, hand):
        """Whether all deeds of the hand are done."""
        if not self.has_hand(hand):
            raise NoHand("these have no such hand")
        return len(self.told[hand]) == len(self.programs[hand])

    def has_hand(self, thing):
        """Whether it is one of these hands, whatever it is."""
        return is_between(thing, 0, len(self.programs) - 1)

    def points(self):
        """(hand, deed, answer) of each point that came, in order."""
        return tuple(self.come)

    def history(self):
        """(hand, deed, answer, begin, end) of each deed done, as they ended."""
        return tuple(self.ended)

    def answers(self):
        """For each hand the answers of its deeds done."""
        return tuple([tuple(answers) for answers in self.told])

    def state(self):
        """All that makes two of these equal."""
        return (*self.crew.state(), self.answers(), tuple([tuple(begun) for begun in self.ahead]))

    def copied(self):
        """Hands like these, that go on by themselves; their runs, which were these ones' own, stay behind."""
        # Made of an empty tree: the tree that takes its place need not be looked through again.
        other = Hands(empty(), self.programs, rule=self.rule)
        other.crew = self.crew.copied()
        other.told = [list(answers) for answers in self.told]
        other.ahead = [list(begun) for begun in self.ahead]
        other.begins = list(self.begins)
        other.many_steps = self.many_steps
        other.come = list(self.come)
        other.ended = list(self.ended)
        return other

    def __eq__(self, other):
        """Whether other are hands alike in all that counts for what is still to come and for orders."""
        if not isinstance(other, Hands):
            return False
        return self.state() == other.state()

    def __len__(self):
        """How many deeds are done."""
        return len(self.ended)
