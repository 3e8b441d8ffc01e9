"""All weavings of small programs, whether their answers have orders, and what the answers can be."""

from latchgrove.deeds.maps import done_to
from latchgrove.errors import NoPrograms
from latchgrove.hands.hands import Hands
from latchgrove.hands.steps import COUPLED, are_programs
from latchgrove.latches.webs import web_from
from latchgrove.orders.records import order_of
from latchgrove.pages.kinds import are_rising, is_row, is_whole
from latchgrove.pages.needs import need_tree
from latchgrove.pages.trees import pairs_in

MOST_HANDS = 3
MOST_DEEDS = 4
MOST_WEAVINGS = 400


def need_small(thing):
    """Refuse what are no programs of few deeds, without walks."""
    if not are_programs(thing) or not are_small(thing):
        raise NoPrograms("programs are here at most three rows, four deeds in all, no walks")


def are_small(programs):
    """Whether the programs have few hands and few deeds, none of them a walk."""
    words = [deed[0] for row in programs for deed in row]
    return len(programs) <= MOST_HANDS and len(words) <= MOST_DEEDS and "walk" not in words


def web_of(tree, programs, rule):
    """Hands behind all weavings that are unlike."""
    need_tree(tree)
    need_small(programs)
    return web_from(Hands(tree, programs, rule=rule), len(programs), MOST_WEAVINGS)


def ends_in(web):
    """The numbers of the states in which all hands are through."""
    return [at for at, hands in enumerate(web.plays) if all([hands.is_through(hand) for hand in web.hands])]


def is_astray(tree, hands):
    """Whether the records of hands that are through have no order."""
    records = tuple([row[1:] for row in hands.history()])
    return order_of(pairs_in(tree), records)[0] != "order"


def all_weavings(tree, programs, *, rule=COUPLED):
    """("whole", weavings), one of each kind, or ("astray", weaving) whose records have no order."""
    web = web_of(tree, programs, rule)
    for at in ends_in(web):
        if is_astray(tree, web.plays[at]):
            return ("astray", web.weavings[at])
    return ("whole", tuple(sorted(web.weavings)))


def shows_weavings(tree, programs, thing, *, rule=COUPLED):
    """Whether the thing is what could be told of all weavings, whatever it is."""
    web = web_of(tree, programs, rule)
    if not is_row(thing, 2):
        return False
    astray = [at for at in ends_in(web) if is_astray(tree, web.plays[at])]
    if thing[0] == "astray":
        return behind(web, thing[1]) in astray
    return thing[0] == "whole" and not astray and are_whole(web, thing[1])


def behind(web, weaving):
    """The number of the state that the weaving leads to; None where it is none of hands that can step."""
    if not isinstance(weaving, tuple):
        return None
    at = 0
    for hand in weaving:
        if not is_whole(hand) or hand not in web.moves[at]:
            return None
        at = web.moves[at][hand]
    return at


def are_whole(web, thing):
    """Whether these are rising weavings, the empty one among them, that have one like each made longer."""
    if not isinstance(thing, tuple):
        return False
    come_to = [behind(web, weaving) for weaving in thing]
    if None in come_to or () not in thing or not are_rising(thing):
        return False
    return all([after in come_to for at in come_to for after in web.moves[at].values()])


def ends_of(tree, programs, *, rule=COUPLED):
    """What the answers of all hands can be behind weavings that end, each once, rising by repr."""
    web = web_of(tree, programs, rule)
    return by_repr([web.plays[at].answers() for at in ends_in(web)])


def orders_of(tree, programs):
    """What the answers of all hands can be by the plain map, each once, rising by repr."""
    need_tree(tree)
    need_small(programs)
    ways = [(pairs_in(tree), tuple([() for _ in programs]))]
    for _ in range(sum([len(row) for row in programs])):
        ways = [after for pairs, answers in ways for after in ways_behind(programs, pairs, answers)]
    return by_repr([answers for _, answers in ways])


def ways_behind(programs, pairs, answers):
    """The pairs and all hands' answers behind one deed more, for each hand that has one left."""
    ways = []
    for hand, row in enumerate(programs):
        mine = answers[hand]
        if len(mine) < len(row):
            plain = dict(pairs)
            answer = done_to(plain, row[len(mine)])
            ways.append((tuple(sorted(plain.items())), (*answers[:hand], (*mine, answer), *answers[hand + 1:])))
    return ways


def by_repr(things):
    """Each of the things once, rising by its repr."""
    table = {repr(thing): thing for thing in things}
    return tuple([table[text] for text in sorted(table)])
