"""Trades: steps of a weaving that touch nothing of one another can stand in either order."""

from handpromise.hands import reads, row_at, writes
from handpromise.houses import HANDS
from handpromise.weave import woven


def tracks(house, start, steps):
    states = woven(house, start, steps)
    return [(step[0], state[1][step[0]], step[1]) for step, state in zip(steps, states)]


def apart(house, one, other):
    return are_apart(touch_of(house, one), touch_of(house, other))


# Reckoned once for each step of a weaving: conditions can be long, and a step is set beside many others.
def touch_of(house, track):
    way = row_at(house[HANDS][track[0]], track[1])[track[2]]
    return (track[0], writes(way), reads(way) + writes(way))


def are_apart(one, other):
    return one[0] != other[0] and not meet(one[1], other[2]) and not meet(other[1], one[2])


def meet(one, other):
    return any([box in other for box in one])


# The weaving is looked at ahead of the place: one that doesn't go is refused, wherever the trade would stand.
def traded(house, start, steps, at):
    told = tracks(house, start, steps)
    if not 0 <= at < len(told) - 1 or not apart(house, told[at], told[at + 1]):
        return None
    return steps[:at] + [steps[at + 1], steps[at]] + steps[at + 2:]


# Each time the least of the steps that can be traded to the front: no two such steps are of one hand, so no two are
# the same. A step stays at the same place of its hand in each trade: its touch is the same all along.
def least(house, start, steps):
    left = [(step, touch_of(house, track)) for step, track in zip(steps, tracks(house, start, steps))]
    found = []
    trades = []
    while left:
        at = least_free(left)
        trades.extend([len(found) + place for place in range(at - 1, -1, -1)])
        found.append(left.pop(at)[0])
    return (found, trades)


def least_free(left):
    best = 0
    for at in range(1, len(left)):
        if left[at][0] < left[best][0] and is_free(left, at):
            best = at
    return best


def is_free(left, at):
    return all([are_apart(left[at][1], touch) for step, touch in left[:at]])


def alike(house, start, one, other):
    first = least(house, start, one)
    second = least(house, start, other)
    return first[0] == second[0]
