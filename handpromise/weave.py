"""Weavings: the steps of a house's hands, one behind the other, and all states that they come to."""

from handpromise.conds import holds, stands_of
from handpromise.errors import NoStart, NoStep
from handpromise.hands import NEXT, behind, row_at
from handpromise.houses import BEGIN, BOXES, HANDS
from handpromise.stands import is_stand


def gone(house, state, step):
    hand = step[0]
    if not 0 <= hand < len(house[HANDS]):
        return None
    stand = state[0]
    places = state[1]
    row = row_at(house[HANDS][hand], places[hand])
    if not 0 <= step[1] < len(row):
        return None
    way = row[step[1]]
    further = behind(house[BOXES], way, stand)
    if further is None:
        return None
    return (further, places[:hand] + (way[NEXT],) + places[hand + 1:])


def woven(house, start, steps):
    if not is_stand(house[BOXES], start) or not holds(house[BEGIN], start, None):
        raise NoStart("a start is a stand of the boxes at which begin holds")
    state = first_state(house, start)
    states = [state]
    for number, step in enumerate(steps):
        state = gone(house, state, step)
        if state is None:
            raise NoStep(number)
        states.append(state)
    return states


def first_state(house, start):
    return (start, tuple([0 for hand in house[HANDS]]))


# The list grows while it is gone through: so it is gone through by numbers.
def all_states(house):
    rows = []
    known = {}
    for start in stands_of(house[BOXES], house[BEGIN]):
        state = first_state(house, start)
        known[state] = True
        rows.append((state, None, None))
    parent = 0
    while parent < len(rows):
        for step, state in goings(house, rows[parent][0]):
            if state not in known:
                known[state] = True
                rows.append((state, parent, step))
        parent = parent + 1
    return rows


# Each step that goes from the state, by hands, then ways, and the state behind it.
def goings(house, state):
    found = []
    for number, hand in enumerate(house[HANDS]):
        for way in range(len(row_at(hand, state[1][number]))):
            further = gone(house, state, (number, way))
            if further is not None:
                found.append(((number, way), further))
    return found


def weaving_to(rows, number):
    row = rows[number]
    steps = []
    while row[1] is not None:
        steps.append(row[2])
        row = rows[row[1]]
    steps.reverse()
    return (row[0][0], steps)


def ends(house):
    return [number for number, row in enumerate(all_states(house)) if is_end(house, row[0])]


def stuck(house):
    return [number for number, row in enumerate(all_states(house)) if is_stuck(house, row[0])]


def is_end(house, state):
    return all([place == len(hand) for hand, place in zip(house[HANDS], state[1])])


def is_stuck(house, state):
    return not is_end(house, state) and len(goings(house, state)) == 0
