"""Sums and conditions: over a stand ahead, and of promises over the stand behind too."""

from handpromise.errors import NoCond, TooMany
from handpromise.kinds import is_whole_within
from handpromise.stands import stands

MOST_PARTS = 40
MOST_NUMBER = 99

# What is due behind each word: "sum" and "cond" are parts, "number" and "box" are whole numbers.
SUM_FORMS = {
    "number": ("number",),
    "box": ("box",),
    "after": ("box",),
    "plus": ("sum", "sum"),
    "minus": ("sum", "sum"),
}
COND_FORMS = {
    "yes": (),
    "is": ("sum", "sum"),
    "less": ("sum", "sum"),
    "not": ("cond",),
    "both": ("cond", "cond"),
    "either": ("cond", "cond"),
}


def sum_of(boxes, thing, plain):
    look_through(boxes, "sum", thing, plain, 0)
    return thing


def cond_of(boxes, thing, plain):
    look_through(boxes, "cond", thing, plain, 0)
    return thing


# Tells how many parts are seen by its end. The count goes along from part to part, so that
# the look ends at the forty-first one, however often parts stand within one another.
def look_through(boxes, kind, thing, plain, seen):
    if seen == MOST_PARTS:
        raise TooMany("a condition or sum has at most forty parts")
    seen = seen + 1
    form = form_of(kind, thing, plain)
    for due, inner in zip(form, thing[1:]):
        if due == "sum" or due == "cond":
            seen = look_through(boxes, due, inner, plain, seen)
        else:
            check_number(boxes, due, inner)
    return seen


# The word is known for a text ahead of all else: nothing is hashed or compared that
# could be of another kind, or have parts without end.
def form_of(kind, thing, plain):
    if not isinstance(thing, tuple) or len(thing) == 0 or not isinstance(thing[0], str):
        raise NoCond("a part is a tuple that begins with a word")
    word = thing[0]
    form = SUM_FORMS.get(word) if kind == "sum" else COND_FORMS.get(word)
    if form is None or len(thing) != len(form) + 1:
        raise NoCond("a part has a word that is due there, and as many things as go with it")
    if plain and word == "after":
        raise NoCond("no after stands where a plain one is due")
    return form


def check_number(boxes, due, thing):
    most = MOST_NUMBER if due == "number" else len(boxes) - 1
    if not is_whole_within(thing, 0, most):
        raise NoCond("a number is a whole one from 0 to 99, a box the number of one")


def value(one, ahead, behind):
    word = one[0]
    if word == "number":
        return one[1]
    if word == "box":
        return ahead[one[1]]
    if word == "after":
        return behind[one[1]]
    left = value(one[1], ahead, behind)
    right = value(one[2], ahead, behind)
    return left + right if word == "plus" else left - right


def holds(cond, ahead, behind):
    word = cond[0]
    if word == "yes":
        return True
    if word == "not":
        return not holds(cond[1], ahead, behind)
    if word == "both":
        return holds(cond[1], ahead, behind) and holds(cond[2], ahead, behind)
    if word == "either":
        return holds(cond[1], ahead, behind) or holds(cond[2], ahead, behind)
    left = value(cond[1], ahead, behind)
    right = value(cond[2], ahead, behind)
    return left == right if word == "is" else left < right


def stands_of(boxes, cond):
    return [stand for stand in stands(boxes) if holds(cond, stand, None)]


def steps_of(boxes, cond):
    every = stands(boxes)
    found = []
    for ahead in every:
        for behind in every:
            if ahead != behind and holds(cond, ahead, behind):
                found.append((ahead, behind))
    return found


def boxes_in(one):
    return sorted(set([part[1] for part in parts_in(one) if part[0] == "box"]))


def parts_in(one):
    found = [one]
    for inner in one[1:]:
        if isinstance(inner, tuple):
            found.extend(parts_in(inner))
    return found
