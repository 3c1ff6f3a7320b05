"""Houses: boxes, a begin, and hands with their promises and notes."""

from handpromise.conds import cond_of
from handpromise.errors import NoCond, NoHand, NoHouse, TooMany
from handpromise.hands import hand_of
from handpromise.stands import boxes_of, count_stands

MOST_HANDS = 3
MOST_STATES = 1000

# Where a house has its things.
BOXES = 0
BEGIN = 1
HANDS = 2
PROMISES = 3
NOTES = 4


# Each list is made anew: what is done later to those handed in doesn't reach the house.
def house_of(boxes, begin, hands, promises, notes):
    own_boxes = boxes_of(boxes)
    own_begin = house_cond(own_boxes, begin, True)
    own_hands = house_hands(own_boxes, hands)
    own_promises = house_conds(own_boxes, promises, len(own_hands), False)
    own_notes = house_notes(own_boxes, notes, own_hands)
    if count_states(own_boxes, own_hands) > MOST_STATES:
        raise TooMany("stands and places of a house make at most a thousand states")
    return (own_boxes, own_begin, own_hands, own_promises, own_notes)


def house_cond(boxes, thing, plain):
    try:
        return cond_of(boxes, thing, plain)
    except (NoCond, TooMany):
        raise NoHouse("begin, promises and notes are conditions of at most forty parts") from None


def house_conds(boxes, thing, count, plain):
    if not isinstance(thing, list) or len(thing) != count:
        raise NoHouse("there is a promise for each hand, and a note for each of its places")
    return [house_cond(boxes, one, plain) for one in thing]


def house_hands(boxes, thing):
    if not isinstance(thing, list) or not 1 <= len(thing) <= MOST_HANDS:
        raise NoHouse("a house has a list of one to three hands")
    try:
        return [hand_of(boxes, one) for one in thing]
    except NoHand:
        raise NoHouse("a house's hands are hands for its boxes") from None


def house_notes(boxes, thing, hands):
    if not isinstance(thing, list) or len(thing) != len(hands):
        raise NoHouse("there is a list of notes for each hand")
    return [house_conds(boxes, one, count_places(hand), True) for one, hand in zip(thing, hands)]


# Behind the rows' own places there is one more, the end.
def count_places(hand):
    return len(hand) + 1


def count_states(boxes, hands):
    count = count_stands(boxes)
    for hand in hands:
        count = count * count_places(hand)
    return count
