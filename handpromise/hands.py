"""Hands: rows of ways, and what a way does to the boxes."""

from handpromise.conds import boxes_in, cond_of, holds, sum_of, value
from handpromise.errors import NoCond, NoHand, TooMany
from handpromise.kinds import is_whole_within

MOST_ROWS = 8
MOST_WAYS = 4

# Where a way has its things.
GUARD = 0
PUTS = 1
NEXT = 2


# The rows are lists of the hand's own; a way that is let by is tuples all through, and can't be changed.
def hand_of(boxes, thing):
    if not isinstance(thing, list) or len(thing) > MOST_ROWS:
        raise NoHand("a hand is a list of none to eight rows")
    return [row_of(boxes, row, len(thing)) for row in thing]


def row_of(boxes, thing, end):
    if not isinstance(thing, list) or not 1 <= len(thing) <= MOST_WAYS:
        raise NoHand("a row is a list of one to four ways")
    return [way_of(boxes, way, end) for way in thing]


def way_of(boxes, thing, end):
    if not isinstance(thing, tuple) or len(thing) != 3:
        raise NoHand("a way is a tuple (guard, puts, next)")
    check_guard(boxes, thing[GUARD])
    check_puts(boxes, thing[PUTS])
    if not is_whole_within(thing[NEXT], 0, end):
        raise NoHand("a way's next is a place of the hand")
    return thing


def check_guard(boxes, thing):
    try:
        cond_of(boxes, thing, True)
    except (NoCond, TooMany):
        raise NoHand("a guard is a plain condition of at most forty parts") from None


def check_puts(boxes, thing):
    if not isinstance(thing, tuple):
        raise NoHand("puts are a tuple")
    least = 0
    for put in thing:
        check_put(boxes, put, least)
        least = put[0] + 1


def check_put(boxes, thing, least):
    if not isinstance(thing, tuple) or len(thing) != 2:
        raise NoHand("a put is a tuple (box, sum)")
    if not is_whole_within(thing[0], least, len(boxes) - 1):
        raise NoHand("puts are of the boxes' numbers, rising, each once")
    try:
        sum_of(boxes, thing[1], True)
    except (NoCond, TooMany):
        raise NoHand("a put's sum is a plain one of at most forty parts") from None


# All sums are reckoned by the stand ahead: no put sees what another one has put.
def behind(boxes, way, stand):
    if not holds(way[GUARD], stand, None):
        return None
    held = list(stand)
    for box, one in way[PUTS]:
        amount = value(one, stand, None)
        if not 0 <= amount <= boxes[box][1]:
            return None
        held[box] = amount
    return tuple(held)


def ways_at(boxes, hand, place, stand):
    row = row_at(hand, place)
    return [number for number, way in enumerate(row) if behind(boxes, way, stand) is not None]


# At the end there is no row; Python's own indexes below 0 would count from there.
def row_at(hand, place):
    return hand[place] if 0 <= place < len(hand) else []


def reads(way):
    found = boxes_in(way[GUARD])
    for box, one in way[PUTS]:
        found.extend(boxes_in(one))
    return sorted(set(found))


def writes(way):
    return [box for box, one in way[PUTS]]
