"""Records of deeds, and whether an order of them gives the answers that were told."""

from latchgrove.deeds.rows import is_deed
from latchgrove.errors import NoRecords
from latchgrove.orders.states import Times, next_states, states_from
from latchgrove.pages.kinds import GREATEST, are_rising, are_rising_pairs, is_between, is_row, is_value, is_whole
from latchgrove.pages.needs import need_rising_pairs

MOST_RECORDS = 8


def is_record(thing):
    """Whether it is a record, of a deed told or of one never told."""
    if not is_row(thing, 4):
        return False
    deed, answer, begin, end = thing
    if not is_deed(deed) or deed[0] == "walk" or not is_between(begin, 0, GREATEST):
        return False
    if end is None:
        return answer is None
    return is_answer(answer) and is_whole(end) and end > begin


def is_answer(thing):
    """Whether it is what some deed may have answered."""
    return thing is None or is_value(thing) or are_rising_pairs(thing) or thing == "lost"


def need_records(thing):
    """Refuse what are no records."""
    if not isinstance(thing, tuple) or len(thing) > MOST_RECORDS or not all([is_record(part) for part in thing]):
        raise NoRecords("records are none to eight of (deed, answer, begin, end), no walks")


def order_of(start, records):
    """("order", numbers) where the records have an order from the start, else ("never", table)."""
    need_rising_pairs(start)
    need_records(records)
    times = Times(records)
    ways = states_from(times, start)
    for state, way in ways.items():
        if times.all_told_in(state[0]):
            return ("order", way)
    return ("never", tuple(sorted(list(ways))))


def shows_order(start, records, thing):
    """Whether the thing is what could be told of the records' order, whatever it is."""
    need_rising_pairs(start)
    need_records(records)
    times = Times(records)
    states_from(times, start)
    if not is_row(thing, 2):
        return False
    if thing[0] == "order":
        return is_order(times, start, thing[1])
    return thing[0] == "never" and is_table(times, start, thing[1])


def is_order(times, start, thing):
    """Whether these are numbers of records that make an order from the start."""
    if not isinstance(thing, tuple) or not all([is_whole(number) for number in thing]):
        return False
    state = ((), start)
    for number in thing:
        after = next_states(times, state)
        if number not in after:
            return False
        state = after[number]
    return times.all_told_in(state[0])


def is_state(times, thing):
    """Whether it is a state by itself: rising numbers of records, and rising pairs."""
    if not is_row(thing, 2) or not isinstance(thing[0], tuple) or not are_rising_pairs(thing[1]):
        return False
    last = len(times.records) - 1
    return all([is_between(number, 0, last) for number in thing[0]]) and are_rising(thing[0])


def is_table(times, start, thing):
    """Whether it has the first state, with each all that come next, and none with all told ones done."""
    if not isinstance(thing, tuple) or not all([is_state(times, state) for state in thing]):
        return False
    if ((), start) not in thing or not are_rising(thing):
        return False
    if any([times.all_told_in(state[0]) for state in thing]):
        return False
    table = {state: True for state in thing}
    return all([after in table for state in thing for after in next_states(times, state).values()])
