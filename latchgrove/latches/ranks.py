"""Plans of taking and letting pages, and ranks by which none of them can stick."""

from latchgrove.errors import NoPlans
from latchgrove.latches.rings import ring_in
from latchgrove.pages.kinds import is_between, is_row, is_whole

MOST_HANDS = 4
MOST_STEPS = 16
LAST_PLANNED = 60


def is_plan_step(thing):
    """Whether it is a take or a let by itself."""
    if is_row(thing, 3):
        return thing[0] == "take" and is_between(thing[1], 0, LAST_PLANNED) and isinstance(thing[2], bool)
    return is_row(thing, 2) and thing[0] == "let" and is_between(thing[1], 0, LAST_PLANNED)


def is_plan(thing):
    """Whether it is a row of takes and lets that takes and lets each page in turn."""
    if not isinstance(thing, tuple) or len(thing) > MOST_STEPS:
        return False
    if not all([is_plan_step(step) for step in thing]):
        return False
    held = {}
    for step in thing:
        if (step[0] == "take") == (step[1] in held):
            return False
        if step[0] == "take":
            held[step[1]] = True
        else:
            del held[step[1]]
    return not held


def are_plans(thing):
    """Whether these are plans, whatever it is."""
    if not isinstance(thing, tuple) or not 1 <= len(thing) <= MOST_HANDS:
        return False
    return all([is_plan(plan) for plan in thing])


def need_plans(thing):
    """Refuse what are no plans."""
    if not are_plans(thing):
        raise NoPlans("plans are one to four rows of takes and lets, each page let that is taken")


def pages_in(plans):
    """All pages that are taken in the plans, rising."""
    pages = {step[1]: True for plan in plans for step in plan}
    return sorted(pages)


def pulls_of(plans):
    """Each (hand, held, taken) of the plans, where the one is taken while the other is held."""
    pulls = {}
    for hand, plan in enumerate(plans):
        held = {}
        for step in plan:
            if step[0] == "let":
                del held[step[1]]
                continue
            for page in held:
                pulls[(hand, page, step[1])] = True
            held[step[1]] = True
    return pulls


def ranks_for(plans):
    """("ranks", pairs) by which each plan takes rising, or ("ring", triples) for which there are none."""
    need_plans(plans)
    pulls = pulls_of(plans)
    nexts = {page: [] for page in pages_in(plans)}
    for _, held, taken in pulls:
        nexts[held].append(taken)
    ring = ring_in(nexts)
    if ring is None:
        return ("ranks", tuple(sorted(ranks_by(pulls, nexts).items())))
    pairs = list(zip(ring, ring[1:] + ring[:1]))
    return ("ring", tuple([pull_between(pulls, held, taken) for held, taken in pairs]))


def ranks_by(pulls, pages):
    """The least ranks from 0 on that rise along each pull; there is no ring of these."""
    ranks = {page: 0 for page in pages}
    low = [None]
    while low:
        low = [(held, taken) for _, held, taken in pulls if ranks[taken] <= ranks[held]]
        for held, taken in low:
            ranks[taken] = max(ranks[taken], ranks[held] + 1)
    return ranks


def pull_between(pulls, held, taken):
    """One of the pulls from the one page to the other."""
    return [pull for pull in pulls if pull[1] == held and pull[2] == taken][0]


def shows_ranks(plans, thing):
    """Whether the thing is what could be told of ranks for the plans, whatever it is."""
    need_plans(plans)
    if not is_row(thing, 2):
        return False
    if thing[0] == "ranks":
        return are_ranks(plans, thing[1])
    return thing[0] == "ring" and is_ring_of_pulls(plans, thing[1])


def are_ranks(plans, thing):
    """Whether these are ranks of all pages of the plans, rising along each pull."""
    if not isinstance(thing, tuple):
        return False
    if not all([is_row(pair, 2) and is_whole(pair[0]) and is_whole(pair[1]) for pair in thing]):
        return False
    if [page for page, _ in thing] != pages_in(plans):
        return False
    ranks = dict(thing)
    return all([ranks[held] < ranks[taken] for _, held, taken in pulls_of(plans)])


def is_ring_of_pulls(plans, thing):
    """Whether these are two or more pulls of the plans, each going on where the one ahead of it ends."""
    if not isinstance(thing, tuple) or len(thing) < 2:
        return False
    if not all([is_row(pull, 3) and all([is_whole(part) for part in pull]) for pull in thing]):
        return False
    pulls = pulls_of(plans)
    if not all([pull in pulls for pull in thing]):
        return False
    return all([one[2] == other[1] for one, other in zip(thing, thing[1:] + thing[:1])])
