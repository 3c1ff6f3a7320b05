"""What the tests have in common: things of all kinds, and houses made by chance."""

import random

HUGE = 10 ** 60 - 1
X = ("box", 0)
Y = ("box", 1)
X_AFTER = ("after", 0)
Y_AFTER = ("after", 1)
ONE = ("number", 1)
YES = ("yes",)
NO = ("not", YES)

# Things of kinds that are seldom due.
OTHER_KINDS = [
    None, True, False, 0, -1, HUGE, 0.5, 1j, "", "x y", b"x", [], [1], {}, {"x": 1}, set(), {1}, frozenset(),
    range(2), object(), int, len, float("nan"), iter([]),
]


def number(n):
    return ("number", n)


def nested(depth, kind):
    thing = kind()
    for unused in range(depth):
        thing = kind([thing])
    return thing


def doubled(depth):
    thing = ()
    for unused in range(depth):
        thing = (thing, thing)
    return thing


def held_by_itself():
    thing = []
    thing.append(thing)
    return thing


def deep_kinds():
    return [nested(95, list), nested(95, tuple), doubled(95), held_by_itself(), (held_by_itself(),)]


def row_of_nots(count, inner):
    for unused in range(count):
        inner = ("not", inner)
    return inner


def left_leaning(word, count, inner):
    # A tree with count inner parts and count + 1 leaves.
    thing = inner
    for unused in range(count):
        thing = (word, thing, inner)
    return thing


def lists_in(thing):
    # All lists in a thing, each time that one stands there.
    found = [thing] if isinstance(thing, list) else []
    if isinstance(thing, (list, tuple)):
        for inner in thing:
            found.extend(lists_in(inner))
    return found


def text_of(one):
    # What a part means, as Python says it.
    leaves = {"number": "{}", "box": "ahead[{}]", "after": "behind[{}]"}
    if one[0] in leaves:
        return leaves[one[0]].format(one[1])
    signs = {
        "plus": "({} + {})", "minus": "({} - {})", "is": "({} == {})", "less": "({} < {})", "not": "(not {})",
        "both": "({} and {})", "either": "({} or {})", "yes": "True",
    }
    return signs[one[0]].format(*[text_of(inner) for inner in one[1:]])


def reckoned(one, ahead, behind=None):
    return eval(text_of(one), {"ahead": ahead, "behind": behind})


def some_sum(chance, leaves, depth):
    if depth == 0 or chance.random() < 0.3:
        return chance.choice([number(chance.randrange(4))] + leaves)
    return (chance.choice(["plus", "minus"]), some_sum(chance, leaves, depth - 1), some_sum(chance, leaves, depth - 1))


def some_cond(chance, leaves, depth):
    if depth == 0 or chance.random() < 0.2:
        word = chance.choice(["is", "less"])
        return (word, some_sum(chance, leaves, 2), some_sum(chance, leaves, 2))
    word = chance.choice(["yes", "not", "both", "either"])
    return (word,) + tuple(some_cond(chance, leaves, depth - 1) for unused in range({"yes": 0, "not": 1}.get(word, 2)))


def some_way(chance, boxes, end):
    leaves = [("box", k) for k in range(len(boxes))]
    guard = some_cond(chance, leaves, chance.randrange(2)) if chance.random() < 0.3 else YES
    put = sorted(chance.sample(range(len(boxes)), chance.randrange(len(boxes) + 1)))
    return (guard, tuple((k, some_sum(chance, leaves, chance.randrange(2))) for k in put), chance.randrange(end + 1))


def some_hand(chance, boxes, most):
    end = max(chance.randrange(most + 1), chance.randrange(most + 1))
    return [[some_way(chance, boxes, end) for unused in range(chance.randrange(1, 5))] for unused in range(end)]


def some_boxes(chance):
    tops = chance.choice([(1,), (3,), (1, 2), (2, 2), (3, 1), (3, 2), (3, 3), (1, 2, 1)])
    return [("xyz"[k], top) for k, top in enumerate(tops)]


def some_parts(seed):
    # Boxes, begin, hands, promises, notes of a house.
    chance = random.Random(seed)
    boxes = some_boxes(chance)
    plain = [("box", k) for k in range(len(boxes))]
    leaves = plain + [("after", k) for k in range(len(boxes))]
    hands = [some_hand(chance, boxes, 3) for unused in range(chance.randrange(1, 4))]
    promises = [some_cond(chance, leaves, 1) for unused in hands]
    notes = [[some_cond(chance, plain, 1) for unused in range(len(hand) + 1)] for hand in hands]
    begin = some_cond(chance, plain, 1) if chance.random() < 0.5 else ("is", X, number(0))
    return boxes, begin, hands, promises, notes


def stand_behind(boxes, way, stand):
    # What a way does, once more.
    guard, puts, unused = way
    if not reckoned(guard, stand):
        return None
    put = {box: reckoned(one, stand) for box, one in puts}
    if any(not 0 <= amount <= boxes[box][1] for box, amount in put.items()):
        return None
    return tuple(put.get(k, held) for k, held in enumerate(stand))
