"""What the tests have in common: things of all kinds, houses made by chance, and second reckonings."""

import copy
import functools
import itertools
import random

HUGE = 10 ** 60 - 1
X = ("box", 0)
Y = ("box", 1)
Z = ("box", 2)
X_AFTER = ("after", 0)
Y_AFTER = ("after", 1)
ONE = ("number", 1)
YES = ("yes",)
NO = ("not", YES)

# Things of kinds that are seldom due.
OTHER_KINDS = [
    None, True, False, 0, -1, HUGE, 0.5, 1j, "", "x y", b"x", [], [1], {}, {"x": 1}, set(), {1}, frozenset(),
    range(2), object(), int, len, float("nan"), iter([]),
]


def number(n):
    return ("number", n)


# What is no plain condition, and no plain sum, for two boxes x and y.
NO_CONDS = [
    (), ONE, X, ("plus", X, Y), ["yes"], ("Yes",), ("no",), ("yes", YES), ("is", X), ("is", X, Y, X), ("not",),
    ("nor", YES, YES), ("both", YES, X), ("either", None, YES), ("is", X, YES), ("is", ["box", 0], X), ("is", X, Z),
    ("is", ("box", -1), X), ("less", X, number(100)), ("less", X, number(-1)), ("less", number(True), X),
    ("is", ("box", False), X), ("is", X, X_AFTER), ("not", ("less", Y_AFTER, X)), ("is", X, number(HUGE)),
]
NO_SUMS = [
    (), YES, NO, ("is", X, Y), ["box", 0], ("times", X, Y), ("plus", X), ("plus", X, Y, X), ("minus", X, None),
    ("number",), ("number", 1, 1), Z, ("box", -1), ("box", HUGE), ("box", True), ("box", "x"), number(100), number(-1),
    number(HUGE), number(-HUGE), number(True), number("1"), number(1.0), X_AFTER, Y_AFTER, ("plus", X, Y_AFTER),
    ("minus", ("minus", X_AFTER, X), X), ("plus", X, ["box", 0]),
]


def without(things, kept):
    return [thing for thing in things if isinstance(thing, bool) or thing != kept]


def nested(depth, kind):
    thing = kind()
    for unused in range(depth):
        thing = kind([thing])
    return thing


def doubled(depth):
    thing = ()
    for unused in range(depth):
        thing = (thing, thing)
    return thing


def held_by_itself():
    thing = []
    thing.append(thing)
    return thing


def deep_kinds():
    return [nested(95, list), nested(95, tuple), doubled(95), held_by_itself(), (held_by_itself(),)]


def row_of_nots(count, inner):
    for unused in range(count):
        inner = ("not", inner)
    return inner


def left_leaning(word, count, inner):
    # A tree with count inner parts and count + 1 leaves.
    thing = inner
    for unused in range(count):
        thing = (word, thing, inner)
    return thing


def lists_in(thing):
    # All lists in a thing, each time that one stands there.
    found = [thing] if isinstance(thing, list) else []
    if isinstance(thing, (list, tuple)):
        for inner in thing:
            found.extend(lists_in(inner))
    return found


def text_of(one):
    # What a part means, as Python says it.
    leaves = {"number": "{}", "box": "ahead[{}]", "after": "behind[{}]"}
    if one[0] in leaves:
        return leaves[one[0]].format(one[1])
    signs = {
        "plus": "({} + {})", "minus": "({} - {})", "is": "({} == {})", "less": "({} < {})", "not": "(not {})",
        "both": "({} and {})", "either": "({} or {})", "yes": "True",
    }
    return signs[one[0]].format(*[text_of(inner) for inner in one[1:]])


@functools.lru_cache(maxsize=None)
def meaning(one):
    return eval("lambda ahead, behind: " + text_of(one))


def reckoned(one, ahead, behind=None):
    return meaning(one)(ahead, behind)


def up(box, place):
    return (YES, ((box, ("plus", ("box", box), ONE)),), place)


def put(box, n, place):
    return (YES, ((box, number(n)),), place)


def wait(box, n, place):
    return (("is", ("box", box), number(n)), (), place)


def some_sum(chance, leaves, depth):
    if depth == 0 or chance.random() < 0.3:
        return chance.choice([number(chance.randrange(4))] + leaves)
    return (chance.choice(["plus", "minus"]), some_sum(chance, leaves, depth - 1), some_sum(chance, leaves, depth - 1))


def some_cond(chance, leaves, depth):
    if depth == 0 or chance.random() < 0.2:
        word = chance.choice(["is", "less"])
        return (word, some_sum(chance, leaves, 2), some_sum(chance, leaves, 2))
    word = chance.choice(["yes", "not", "both", "either"])
    return (word,) + tuple(some_cond(chance, leaves, depth - 1) for unused in range({"yes": 0, "not": 1}.get(word, 2)))


def some_way(chance, boxes, end):
    leaves = [("box", k) for k in range(len(boxes))]
    guard = some_cond(chance, leaves, chance.randrange(2)) if chance.random() < 0.3 else YES
    put = sorted(chance.sample(range(len(boxes)), chance.randrange(len(boxes) + 1)))
    return (guard, tuple((k, some_sum(chance, leaves, chance.randrange(2))) for k in put), chance.randrange(end + 1))


def some_hand(chance, boxes, most):
    end = max(chance.randrange(most + 1), chance.randrange(most + 1))
    return [[some_way(chance, boxes, end) for unused in range(chance.randrange(1, 5))] for unused in range(end)]


def some_boxes(chance):
    tops = chance.choice([(1,), (3,), (1, 2), (2, 2), (3, 1), (3, 2), (3, 3), (1, 2, 1)])
    return [("xyz"[k], top) for k, top in enumerate(tops)]


def some_parts(seed):
    # Boxes, begin, hands, promises, notes of a house.
    chance = random.Random(seed)
    boxes = some_boxes(chance)
    plain = [("box", k) for k in range(len(boxes))]
    leaves = plain + [("after", k) for k in range(len(boxes))]
    hands = [some_hand(chance, boxes, 3) for unused in range(chance.randrange(1, 4))]
    promises = [some_cond(chance, leaves, 1) for unused in hands]
    notes = [[some_cond(chance, plain, 1) for unused in range(len(hand) + 1)] for hand in hands]
    begin = some_cond(chance, plain, 1) if chance.random() < 0.5 else ("is", X, number(0))
    return boxes, begin, hands, promises, notes


# Hands that mostly put one box, and promise to leave the others as they are: some of these houses are good.

def tame_way(chance, boxes, box, end):
    leaves = [("box", k) for k in range(len(boxes))]
    guard = some_cond(chance, leaves, 1) if chance.random() < 0.5 else YES
    puts = ((box, some_sum(chance, leaves, 1)),) if chance.random() < 0.8 else ()
    return (guard, puts, chance.randrange(end + 1))


def tame_promise(chance, boxes, box):
    rises = ("not", ("less", ("after", box), ("box", box)))
    promise = chance.choice([YES, YES, YES, rises, ("less", ("box", box), number(2))])
    for k in range(len(boxes)):
        if k != box and chance.random() < 0.9:
            promise = ("both", promise, ("is", ("after", k), ("box", k)))
    return promise


def tame_note(chance, boxes, box):
    if chance.random() < 0.6:
        return YES
    one = ("box", chance.randrange(len(boxes)) if chance.random() < 0.4 else box)
    return chance.choice([
        ("not", ("is", one, number(chance.randrange(4)))), ("is", one, number(chance.randrange(2))),
        ("less", one, number(chance.randrange(1, 4))),
    ])


def tame_parts(seed):
    chance = random.Random(seed)
    boxes = some_boxes(chance)
    hands, promises, notes = [], [], []
    for unused in range(chance.randrange(1, 4)):
        box = chance.randrange(len(boxes))
        end = chance.randrange(4)
        rows = [range(chance.randrange(1, 3)) for place in range(end)]
        hands.append([[tame_way(chance, boxes, box, end) for way in row] for row in rows])
        promises.append(tame_promise(chance, boxes, box))
        notes.append([tame_note(chance, boxes, box) for place in range(end + 1)])
    begin = YES
    for k in range(len(boxes)):
        if chance.random() < 0.8:
            begin = ("both", begin, ("is", ("box", k), number(0)))
    return boxes, begin, hands, promises, notes


def every_stand(boxes):
    return list(itertools.product(*[range(top + 1) for name, top in boxes]))


def every_step(boxes, promise):
    pairs = itertools.permutations(every_stand(boxes), 2)
    return sorted(pair for pair in pairs if reckoned(promise, *pair))


def stand_behind(boxes, way, stand):
    # What a way does, once more.
    guard, puts, unused = way
    if not reckoned(guard, stand):
        return None
    put = {box: reckoned(one, stand) for box, one in puts}
    if any(not 0 <= amount <= boxes[box][1] for box, amount in put.items()):
        return None
    return tuple(put.get(k, held) for k, held in enumerate(stand))


# What is promised of weavings, once more.

def step_on(whole, state, step):
    boxes, unused, hands = whole[:3]
    stand, places = state
    hand, way = step
    if hand not in range(len(hands)) or places[hand] not in range(len(hands[hand])):
        return None
    if way not in range(len(hands[hand][places[hand]])):
        return None
    chosen = hands[hand][places[hand]][way]
    further = stand_behind(boxes, chosen, stand)
    if further is None:
        return None
    return further, tuple(chosen[2] if k == hand else place for k, place in enumerate(places))


def steps_on(whole, state):
    found = []
    for hand in range(len(whole[2])):
        for way in range(4):
            further = step_on(whole, state, (hand, way))
            if further is not None:
                found.append(((hand, way), further))
    return found


def starts_of(whole):
    return [stand for stand in every_stand(whole[0]) if reckoned(whole[1], stand)]


def depths_of(whole):
    # How many steps the shortest weaving to each state has: rings around the starts.
    ring = {(start, (0,) * len(whole[2])) for start in starts_of(whole)}
    found = {}
    depth = 0
    while ring:
        found.update({state: depth for state in ring})
        depth += 1
        ring = {further for state in ring for step, further in steps_on(whole, state)} - set(found)
    return found


def stands_at_end(boxes, hand, stand):
    # The stands in which a hand alone, from a stand, comes to its end.
    found = {(stand, (0,))}
    ring = set(found)
    while ring:
        ring = {further for state in ring for step, further in steps_on((boxes, None, [hand]), state)} - found
        found |= ring
    return sorted(stand for stand, places in found if places == (len(hand),))


def breaks_in(whole, state):
    # All by which the state breaks the house, notes first.
    boxes, begin, hands, promises, notes = whole
    stand, places = state
    found = [("note", at) for at, place in enumerate(places) if not reckoned(notes[at][place], stand)]
    for (hand, way), (further, unused) in steps_on(whole, state):
        if further != stand and not reckoned(promises[hand], stand, further):
            found.append(("promise", hand, way))
    return found


def some_weaving(chance, whole, start, most):
    state = (start, (0,) * len(whole[2]))
    steps = []
    for unused in range(most):
        on = steps_on(whole, state)
        if on:
            step, state = chance.choice(on)
            steps.append(step)
    return steps


# What is promised of papers, once more. A task is (boxes, hand, promise, others, notes), as the look takes them.

def task_of(whole, at):
    boxes, unused, hands, promises, notes = whole
    steps = [every_step(boxes, promise) for promise in promises]
    others = [steps[k] for k in range(len(hands)) if k != at]
    return boxes, hands[at], steps[at], others, notes[at]


def some_task(chance, boxes, most):
    hand = some_hand(chance, boxes, most)
    every = every_step(boxes, YES)
    promise = set(chance.sample(every, chance.randrange(len(every) + 1)))
    if chance.random() < 0.7:
        own = [(stand, stand_behind(boxes, way, stand)) for row in hand for way in row for stand in every_stand(boxes)]
        promise |= {pair for pair in own if pair[1] not in (None, pair[0])}
    others = [sorted(chance.sample(every, min(len(every), chance.randrange(8)))) for k in range(chance.randrange(3))]
    plain = [("box", k) for k in range(len(boxes))]
    notes = [some_cond(chance, plain, 1) if chance.random() < 0.3 else YES for place in range(len(hand) + 1)]
    return boxes, hand, sorted(promise), others, notes


def ways_on(task, place, stand):
    # Each way that goes from there: its number, the place and the stand behind.
    boxes, hand = task[:2]
    row = hand[place] if place < len(hand) else []
    tried = [(k, way[2], stand_behind(boxes, way, stand)) for k, way in enumerate(row)]
    return [one for one in tried if one[2] is not None]


def breaks_at(task, paper, place, stand):
    boxes, hand, promise, others, notes = task
    found = []
    if not reckoned(notes[place], stand):
        found.append(("note", place, stand))
    for way, place_behind, further in ways_on(task, place, stand):
        if further not in paper[place_behind]:
            found.append(("own", place, stand, way))
        if further != stand and (stand, further) not in promise:
            found.append(("promise", place, stand, way))
    for k, steps in enumerate(others):
        found += [("other", place, stand, k, to) for ahead, to in steps if ahead == stand and to not in paper[place]]
    return found


def breaks_of(task, begin, paper):
    # All of them, in the order of the look.
    starts = [stand for stand in every_stand(task[0]) if reckoned(begin, stand)]
    found = [("begin", stand) for stand in starts if stand not in paper[0]]
    for place, listed in enumerate(paper):
        for stand in listed:
            found += breaks_at(task, paper, place, stand)
    return found


def weakest_by_rounds(task):
    # All stands but those that break, over and over.
    paper = [every_stand(task[0]) for unused in range(len(task[1]) + 1)]
    found = breaks_of(task, NO, paper)
    while found:
        out = {broken[1:3] for broken in found}
        paper = [[stand for stand in listed if (place, stand) not in out] for place, listed in enumerate(paper)]
        found = breaks_of(task, NO, paper)
    return paper


def leads_to_its_break(task, place, stand, road):
    # Whether the road can be gone, step by step, to the break that it tells, and is short enough.
    boxes, hand, promise, others, notes = task
    steps, ending = road
    for step in steps:
        if step[0] == "own":
            on = {("own", way): (next_place, further) for way, next_place, further in ways_on(task, place, stand)}
        else:
            pairs = [(k, further) for k, other in enumerate(others) for ahead, further in other if ahead == stand]
            on = {("other", k, further): (place, further) for k, further in pairs}
        if step not in on:
            return False
        place, stand = on[step]
    if ending == ("note",):
        ends = not reckoned(notes[place], stand)
    else:
        against = [way for way, unused, to in ways_on(task, place, stand) if to != stand and (stand, to) not in promise]
        ends = ending in [("promise", way) for way in against]
    return ends and len(steps) < (len(hand) + 1) * len(every_stand(boxes))


def is_the_askers_own(case, tell, *things):
    # Nothing handed in is changed; what is told is new, no two lists in it one; no change later on is seen elsewhere.
    handed = copy.deepcopy(things)
    told = tell(*handed)
    kept = copy.deepcopy(told)
    case.assertEqual(handed, things)
    lists = [id(one) for one in lists_in(told)]
    case.assertEqual(len(set(lists)), len(lists))
    case.assertEqual(set(lists) & {id(one) for one in lists_in(handed)}, set())
    for one in lists_in(told):
        one.append("spoiled")
    case.assertEqual(handed, things)
    told = tell(*handed)
    case.assertEqual(told, kept)
    for one in lists_in(handed):
        one.clear()
    case.assertEqual(told, kept)
    case.assertEqual(tell(*things), kept)
