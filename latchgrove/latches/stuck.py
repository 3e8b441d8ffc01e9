"""Whether plans can stick: a weaving that ends in a ring, or weavings to all that is come to."""

from latchgrove.latches.plays import Play
from latchgrove.latches.ranks import need_plans
from latchgrove.latches.webs import web_from
from latchgrove.pages.kinds import are_rising, is_row, is_whole

MOST_STATES = 300


def web_of(plans):
    """All that the plans can come to."""
    return web_from(Play(plans), len(plans), MOST_STATES)


def stuck_or_never(plans):
    """("stuck", weaving, ring) where plans can stick, else ("never", weavings)."""
    need_plans(plans)
    web = web_of(plans)
    for play, weaving in zip(web.plays, web.weavings):
        ring = play.table.ring()
        if ring is not None:
            return ("stuck", weaving, ring)
    return ("never", tuple(sorted(web.weavings)))


def shows_stuck(plans, thing):
    """Whether the thing is what could be told of the plans' sticking, whatever it is."""
    need_plans(plans)
    web = web_of(plans)
    if is_row(thing, 3) and thing[0] == "stuck":
        return sticks(web, thing[1], thing[2])
    return is_row(thing, 2) and thing[0] == "never" and never_stick(web, thing[1])


def is_weaving(web, thing):
    """Whether it is a row of the web's hands."""
    return isinstance(thing, tuple) and all([is_whole(hand) and hand in web.hands for hand in thing])


def behind(web, weaving):
    """The number of the state that the weaving leads to; a hand that can't step does nothing."""
    at = 0
    for hand in weaving:
        at = web.moves[at].get(hand, at)
    return at


def is_ring(table, thing):
    """Whether these are hands each of which waits for the next, the last for the first."""
    if not isinstance(thing, tuple) or len(thing) < 2 or not all([is_whole(hand) for hand in thing]):
        return False
    if len({hand: True for hand in thing}) < len(thing):
        return False
    return all([other in table.blockers(one) for one, other in zip(thing, thing[1:] + thing[:1])])


def sticks(web, weaving, ring):
    """Whether the ring stands behind the weaving."""
    return is_weaving(web, weaving) and is_ring(web.plays[behind(web, weaving)].table, ring)


def never_stick(web, weavings):
    """Whether the weavings come to no ring, and to whatever is one step on from what they come to."""
    if not isinstance(weavings, tuple) or not all([is_weaving(web, weaving) for weaving in weavings]):
        return False
    if () not in weavings or not are_rising(weavings):
        return False
    come_to = {behind(web, weaving): True for weaving in weavings}
    if any([web.plays[at].table.ring() is not None for at in come_to]):
        return False
    return all([after in come_to for at in come_to for after in web.moves[at].values()])
