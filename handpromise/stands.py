"""Boxes, and the stands in which they can be."""

from handpromise.errors import NoBoxes, TooMany
from handpromise.kinds import is_whole_within

MOST_BOXES = 5
MOST_LETTERS = 8
MOST_TOP = 7
MOST_STANDS = 24
LETTERS = "abcdefghijklmnopqrstuvwxyz"


def boxes_of(rows):
    if not isinstance(rows, list) or not 1 <= len(rows) <= MOST_BOXES:
        raise NoBoxes("boxes are a list of one to five tuples (name, top)")
    boxes = [box_of(row) for row in rows]
    if len(set([name for name, top in boxes])) < len(boxes):
        raise NoBoxes("no two boxes have the same name")
    if count_stands(boxes) > MOST_STANDS:
        raise TooMany("boxes have at most twenty-four stands")
    return boxes


def box_of(row):
    if not isinstance(row, tuple) or len(row) != 2:
        raise NoBoxes("a box is a tuple (name, top)")
    if not is_name(row[0]):
        raise NoBoxes("a box's name is a text of one to eight small letters")
    if not is_whole_within(row[1], 1, MOST_TOP):
        raise NoBoxes("a box's top is a whole number from 1 to 7")
    return (row[0], row[1])


# Python's own test for small letters lets by letters beyond a to z.
def is_name(thing):
    if not isinstance(thing, str) or not 1 <= len(thing) <= MOST_LETTERS:
        return False
    return all([sign in LETTERS for sign in thing])


def count_stands(boxes):
    count = 1
    for name, top in boxes:
        count = count * (top + 1)
    return count


# Box by box, the first one slowest: so the stands come rising.
def stands(boxes):
    found = [()]
    for name, top in boxes:
        longer = []
        for begun in found:
            longer.extend([begun + (held,) for held in range(top + 1)])
        found = longer
    return found


def is_stand(boxes, thing):
    if not isinstance(thing, tuple) or len(thing) != len(boxes):
        return False
    return all([is_whole_within(held, 0, box[1]) for box, held in zip(boxes, thing)])
