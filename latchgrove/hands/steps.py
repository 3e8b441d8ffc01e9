"""Programs for hands, and the rules by which hands do their deeds in steps."""

from latchgrove.deeds.rows import are_deeds
from latchgrove.errors import NoPrograms, NoRule

COUPLED = "coupled"
HOPEFUL = "hopeful"
LOOSE = "loose"
MOST_HANDS = 6
MOST_DEEDS = 8


def are_programs(thing):
    """Whether these are programs, whatever it is."""
    if not isinstance(thing, tuple) or not 1 <= len(thing) <= MOST_HANDS:
        return False
    return all([are_deeds(row) and len(row) <= MOST_DEEDS for row in thing])


def need_programs(thing):
    """Refuse what are no programs."""
    if not are_programs(thing):
        raise NoPrograms("programs are one to six rows of none to eight deeds")


def is_rule(thing):
    """Whether it is a rule, whatever it is."""
    return thing in (COUPLED, HOPEFUL, LOOSE)


def need_rule(thing):
    """Refuse what is no rule."""
    if not is_rule(thing):
        raise NoRule("a rule is COUPLED, HOPEFUL or LOOSE")
