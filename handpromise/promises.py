"""Promises as lists of steps, set beside one another, and the steps that a hand goes itself."""

from handpromise.hands import behind
from handpromise.stands import stands


def within(one, other):
    lacking = sorted(set(one) - set(other))
    return lacking[0] if lacking else None


def joined(one, other):
    return sorted(set(one) | set(other))


def both(one, other):
    return sorted(set(one) & set(other))


def own_steps(boxes, hand):
    every = stands(boxes)
    found = []
    for row in hand:
        for way in row:
            pairs = [(stand, behind(boxes, way, stand)) for stand in every]
            found.extend([pair for pair in pairs if is_step(pair)])
    return sorted(set(found))


# To change nothing is no step.
def is_step(pair):
    return pair[1] is not None and pair[0] != pair[1]
