import copy
import random
import unittest

from handpromise.errors import NoProgram, TooMany
from handpromise.hands import hand_of
from handpromise.programs import comes_to, made, program_of
from tests.helper import (
    HUGE, NO, NO_CONDS, NO_SUMS, ONE, OTHER_KINDS, X, Y, YES, Z, deep_kinds, every_stand, held_by_itself,
    is_the_askers_own, left_leaning, lists_in, number, row_of_nots, some_boxes, some_cond, some_sum, stand_behind,
    stands_at_end, without,
)

BOXES = [("x", 1), ("y", 3)]
IDLE = ("put", ())
X_ONE = ((0, ONE),)
Y_UP = ((1, ("plus", Y, ONE)),)
Y_DOWN = ((1, ("minus", Y, ONE)),)
OPEN = ("is", X, ONE)
PUT = ("put", X_ONE)
UP = ("put", Y_UP)
DOWN = ("put", Y_DOWN)
WAIT = ("wait", OPEN, Y_UP)


def choose(*programs):
    return ("choose", list(programs))


def loop(times, *deeds):
    return ("loop", times, list(deeds))


# The ways of hands made, by their places.

def idle(place):
    return (YES, (), place)


def one(place):
    return (YES, X_ONE, place)


def rise(place):
    return (YES, Y_UP, place)


def fall(place):
    return (YES, Y_DOWN, place)


def held(place):
    return (OPEN, Y_UP, place)


class TestProgramsLetBy(unittest.TestCase):
    def let_by(self, thing, boxes=BOXES):
        told = program_of(boxes, thing)
        self.assertEqual(told, thing)
        self.assertIs(type(told), list)
        self.assertEqual([type(deed) for deed in told], [tuple] * len(thing))

    def test_the_empty_program(self):
        self.let_by([])

    def test_each_deed(self):
        for deed in (IDLE, PUT, UP, WAIT, ("wait", NO, ()), choose([], []), choose([PUT], [UP]), loop(1, PUT), loop(0)):
            self.let_by([deed])
            self.let_by([PUT, deed, UP])

    def test_none_to_eight_deeds(self):
        for count in range(9):
            self.let_by([PUT] * count)
            self.let_by([loop(2, *[WAIT] * count)])
            self.let_by([choose([], [UP] * count)])

    def test_two_to_four_programs(self):
        for count in (2, 3, 4):
            self.let_by([choose(*[[] for unused in range(count)])])
            self.let_by([choose(*[[PUT, UP] for unused in range(count)])])

    def test_nought_to_eight_times(self):
        for times in range(9):
            self.let_by([loop(times)])
            self.let_by([loop(times, PUT, WAIT)])

    def test_just_three_deep(self):
        for inner in (loop(1), loop(8, PUT), choose([], []), choose([PUT], [PUT], [UP, WAIT])):
            self.let_by([inner])
            self.let_by([loop(2, inner)])
            self.let_by([choose([inner], [inner, PUT])])
            self.let_by([PUT, choose([], [], [], [PUT, inner]), loop(0, inner)])

    def test_programs_that_come_to_too_many_rows(self):
        self.let_by([loop(8, loop(8, *[PUT] * 8)), loop(8, loop(8, *[PUT] * 8))])
        self.let_by([PUT] * 7 + [choose(*[[UP] * 8 for unused in range(4)])])

    def test_puts_of_all_boxes(self):
        boxes = [("a", 1), ("b", 1), ("c", 1), ("d", 2)]
        self.let_by([("put", tuple((k, ("box", 3 - k)) for k in range(4)))], boxes)
        self.let_by([("wait", ("is", Z, ("box", 3)), ((0, X), (3, Z)))], boxes)

    def test_just_forty_parts(self):
        many = left_leaning("plus", 19, X)
        self.let_by([("put", ((0, many), (1, many))), ("wait", row_of_nots(39, YES), ((0, many), (1, many)))])

    def test_full_to_the_brim(self):
        many = ((0, left_leaning("plus", 19, X)),)
        deeds = [("wait", row_of_nots(39, YES), many)] * 8
        inner = [choose(list(deeds), list(deeds), list(deeds), list(deeds)) for unused in range(8)]
        self.let_by([choose(list(inner), list(inner)), loop(8, *inner)])

    def test_its_lists_are_its_own(self):
        shared = [PUT]
        both = [choose(shared, shared), ("loop", 2, shared), loop(1, ("loop", 3, shared))]
        for program in ([], [PUT], both, [choose([WAIT], []), UP]):
            is_the_askers_own(self, program_of, BOXES, program)


class NoPrograms(unittest.TestCase):
    def refused(self, thing, boxes=BOXES):
        with self.assertRaises(NoProgram):
            program_of(boxes, thing)

    def refused_within(self, thing):
        # A thing that is no program, in the place of each.
        self.refused(thing)
        self.refused([("loop", 0, thing)])
        self.refused([PUT, ("loop", 2, thing), PUT])
        self.refused([choose(thing, [])])
        self.refused([choose([], thing)])
        self.refused([PUT, choose([], [PUT], [], thing)])
        self.refused([loop(1, choose([UP], thing, [UP]))])
        self.refused([choose([], [("loop", 0, thing)])])

    def refused_deed(self, deed):
        self.refused_within([deed])
        self.refused_within([PUT, WAIT, deed])
        self.refused_within([deed, PUT])
        self.refused_within([UP] * 7 + [deed])

    def refused_puts(self, puts):
        self.refused_deed(("put", puts))
        self.refused_deed(("wait", YES, puts))

    def refused_put(self, put):
        self.refused_puts((put,))
        self.refused_puts(((0, X), put))
        self.refused_puts((put, (1, X)))


class TestNoProgram(NoPrograms):
    def test_another_kind_of_program(self):
        others = [(), (PUT,), PUT, "put", {0: PUT}, iter([PUT]), {PUT}, [[PUT]], [[]], [()]]
        for thing in without(OTHER_KINDS, []) + others + deep_kinds():
            self.refused_within(thing)

    def test_too_many_deeds(self):
        for count in (9, 10, 1000):
            self.refused_within([PUT] * count)
            self.refused_within([loop(0)] * count)

    def test_another_kind_of_deed(self):
        others = [(), list(PUT), [PUT], "put", {"put": ()}, {"put", ()}, ((), "put"), (("put", ()),), (["put"], ())]
        for deed in OTHER_KINDS + others + deep_kinds():
            self.refused_deed(deed)

    def test_another_word(self):
        words = ["", "Put", "put ", "puts", "yes", "take", "waits", "chooses", "loops", None, 0, b"put", (), ("put",)]
        for word in words + [held_by_itself()]:
            for behind in ((), ((),), (YES, ()), ([[], []],), (1, [])):
                self.refused_deed((word,) + behind)

    def test_another_count_of_things_in_a_deed(self):
        for deed in (IDLE, PUT, WAIT, choose([], []), loop(1)):
            self.refused_deed(deed[:1])
            self.refused_deed(deed[:-1])
            for more in ((), [], None, YES, 1):
                self.refused_deed(deed + (more,))
            self.refused_deed(deed * 300)

    def test_one_deed_s_things_behind_another_word(self):
        self.refused_deed(("put", [[], []]))
        self.refused_deed(("choose", ()))
        self.refused_deed(("wait", 1, []))
        self.refused_deed(("loop", YES, ()))
        self.refused_deed(("wait", (), YES))
        self.refused_deed(("loop", [], 1))

    def test_another_kind_of_puts(self):
        for puts in OTHER_KINDS + [[(0, X)], {0: X}, {(0, X)}, iter([(0, X)]), (0, X), X, YES, "ab"] + deep_kinds():
            self.refused_puts(puts)

    def test_another_kind_of_put(self):
        others = [(), (0,), (0, X, X), [0, X], {0: X}, (X, 0), X, ((0, X),), ([0], X), "ab"]
        for put in OTHER_KINDS + others + deep_kinds():
            self.refused_put(put)

    def test_a_put_s_box_that_is_none(self):
        for box in without(OTHER_KINDS, 0) + [-2, 2, 3, 99, -HUGE, "0", "x", 0.0, (0,), X] + deep_kinds():
            self.refused_put((box, ONE))

    def test_a_put_s_sum_that_is_none(self):
        for thing in OTHER_KINDS + NO_SUMS + deep_kinds():
            self.refused_put((0, thing))
            self.refused_puts(((0, X), (1, ("plus", thing, X))))

    def test_boxes_twice_or_falling(self):
        for boxes in ((0, 0), (1, 1), (1, 0), (0, 1, 1), (0, 0, 1), (0, 1, 0)):
            self.refused_puts(tuple((box, X) for box in boxes))

    def test_a_guard_that_is_none(self):
        for guard in OTHER_KINDS + NO_CONDS + deep_kinds():
            self.refused_deed(("wait", guard, ()))
            self.refused_deed(("wait", ("not", guard), X_ONE))

    def test_more_than_forty_parts(self):
        for count in (40, 41, 98):
            self.refused_deed(("wait", row_of_nots(count, YES), ()))
        for count in (20, 21, 98):
            self.refused_put((0, left_leaning("plus", count, X)))
            self.refused_put((1, left_leaning("minus", count, ONE)))

    def test_another_kind_of_programs(self):
        others = [([], []), ([PUT], [UP]), {0: [], 1: []}, iter([[], []]), "ab", [(), ()], [PUT, UP]]
        for programs in OTHER_KINDS + others + deep_kinds():
            self.refused_deed(("choose", programs))

    def test_too_few_and_too_many_programs(self):
        for count in (0, 1, 5, 6, 1000):
            self.refused_deed(choose(*[[]] * count))
            self.refused_deed(choose(*[[PUT]] * count))

    def test_times_that_are_none(self):
        for times in without(OTHER_KINDS, 0) + [-2, 9, 10, -HUGE, "1", 1.0, (1,), [1], (), [], PUT] + deep_kinds():
            self.refused_deed(("loop", times, []))
            self.refused_deed(("loop", times, [PUT]))

    def test_more_than_three_deep(self):
        for three in ([loop(1, loop(1))], [loop(0, loop(0))], [choose([], [loop(1)])], [choose([], [choose([], [])])],
                      [loop(2, choose([PUT], [], [UP]))], [choose([loop(8, PUT)], [])]):
            self.assertEqual(program_of(BOXES, three), three)
            for four in ([loop(0, *three)], [choose(three, [])], [choose([], three)], [loop(1, loop(1, *three))],
                         [PUT, choose([UP], [], [], three)]):
                self.refused(four)

    def test_very_deep(self):
        program = []
        for unused in range(30):
            program = [("loop", 1, program)]
        self.refused(program)
        program = []
        for unused in range(30):
            program = [choose(program, program, program, program)] * 8
        self.refused(program)

    def test_a_program_within_itself(self):
        program = [PUT]
        program.append(("loop", 0, program))
        self.refused(program)
        program = []
        program.extend([choose(program, program, program, program)] * 8)
        self.refused(program)
        programs = []
        programs.extend([programs, programs])
        self.refused([("choose", programs)])

    def test_no_program_for_these_boxes(self):
        for deed in (("put", ((1, X),)), ("put", ((0, Y),)), ("wait", ("is", Y, ONE), ())):
            self.assertEqual(program_of(BOXES, [deed]), [deed])
            self.refused([deed], [("x", 1)])

    def test_nothing_handed_in_is_changed(self):
        for thing in ([PUT, None], [choose([PUT], [None])], [loop(1, loop(1, loop(1)))]):
            kept = copy.deepcopy(thing)
            self.refused(thing)
            self.assertEqual(thing, kept)


class TestMade(unittest.TestCase):
    def hand(self, program, *rows):
        told = made(BOXES, program)
        self.assertEqual(told, [list(row) for row in rows])
        self.assertEqual(hand_of(BOXES, told), told)
        self.assertEqual([type(row) for row in told], [list] * len(rows))

    def test_the_empty_program(self):
        self.hand([])

    def test_each_deed_alone(self):
        self.hand([IDLE], [idle(1)])
        self.hand([PUT], [one(1)])
        self.hand([WAIT], [held(1)])
        self.hand([("wait", YES, ())], [idle(1)])
        self.hand([choose([], [])], [idle(1), idle(1)])
        self.hand([choose([PUT], [UP])], [idle(1), idle(2)], [one(3)], [rise(3)])
        self.hand([loop(1, PUT)], [one(1)])
        self.hand([loop(3, PUT)], [one(1)], [one(2)], [one(3)])

    def test_one_behind_the_other(self):
        self.hand([PUT, WAIT, UP], [one(1)], [held(2)], [rise(3)])
        self.hand([WAIT, WAIT], [held(1)], [held(2)])

    def test_eight_rows(self):
        self.hand([PUT] * 8, *[[one(place + 1)] for place in range(8)])
        self.hand([loop(8, UP)], *[[rise(place + 1)] for place in range(8)])
        self.hand([loop(2, loop(2, PUT, UP))], *[[one(k + 1) if k % 2 == 0 else rise(k + 1)] for k in range(8)])

    def test_a_choose_at_the_end(self):
        self.hand([PUT, choose([UP], [DOWN])], [one(1)], [idle(2), idle(3)], [rise(4)], [fall(4)])
        self.hand([PUT, choose([], [DOWN, UP])], [one(1)], [idle(4), idle(2)], [fall(3)], [rise(4)])

    def test_a_choose_in_the_middle(self):
        self.hand([choose([UP], [DOWN]), PUT], [idle(1), idle(2)], [rise(3)], [fall(3)], [one(4)])
        self.hand([WAIT, choose([UP, UP], [DOWN]), PUT],
                  [held(1)], [idle(2), idle(4)], [rise(3)], [rise(5)], [fall(5)], [one(6)])

    def test_a_choose_with_programs_of_no_rows(self):
        self.hand([choose([], [UP], [])], [idle(2), idle(1), idle(2)], [rise(2)])
        self.hand([choose([], [UP], []), PUT], [idle(2), idle(1), idle(2)], [rise(2)], [one(3)])
        self.hand([choose([], []), PUT], [idle(1), idle(1)], [one(2)])
        self.hand([choose([loop(0, UP)], [UP], [loop(8)], [loop(3, loop(0, PUT))])],
                  [idle(2), idle(1), idle(2), idle(2)], [rise(2)])

    def test_two_to_four_programs(self):
        self.hand([choose([PUT], [UP], [DOWN])], [idle(1), idle(2), idle(3)], [one(4)], [rise(4)], [fall(4)])
        self.hand([choose([PUT], [UP], [DOWN], [WAIT])],
                  [idle(1), idle(2), idle(3), idle(4)], [one(5)], [rise(5)], [fall(5)], [held(5)])

    def test_a_choose_within_a_choose(self):
        # The inner one stands at its program's end: it leads on to behind the outer one, not to the next program.
        self.hand([choose([choose([PUT], [])], [UP])], [idle(1), idle(3)], [idle(2), idle(4)], [one(4)], [rise(4)])
        self.hand([choose([choose([PUT], [])], [UP]), DOWN],
                  [idle(1), idle(3)], [idle(2), idle(4)], [one(4)], [rise(4)], [fall(5)])
        self.hand([choose([choose([PUT], []), WAIT], [UP]), DOWN],
                  [idle(1), idle(4)], [idle(2), idle(3)], [one(3)], [held(5)], [rise(5)], [fall(6)])
        self.hand([choose([], [choose([], [UP])])], [idle(3), idle(1)], [idle(3), idle(2)], [rise(3)])

    def test_deeds_of_no_rows_behind_others(self):
        self.hand([PUT, loop(0, UP)], [one(1)])
        self.hand([loop(0, UP), PUT], [one(1)])
        self.hand([PUT, loop(0, UP), UP], [one(1)], [rise(2)])
        self.hand([choose([PUT, loop(0, UP)], [UP])], [idle(1), idle(2)], [one(3)], [rise(3)])
        self.hand([choose([PUT], [UP]), loop(8)], [idle(1), idle(2)], [one(3)], [rise(3)])
        self.hand([choose([choose([], [PUT]), loop(0)], [UP])],
                  [idle(1), idle(3)], [idle(4), idle(2)], [one(4)], [rise(4)])

    def test_loops_of_no_times_and_of_nothing(self):
        for program in ([loop(0)], [loop(0, PUT)], [loop(8)], [loop(8, loop(8))], [loop(0, *[loop(8, UP)] * 8)],
                        [loop(3, loop(0, PUT, UP))], [loop(0, choose([PUT] * 8, []))]):
            self.hand(program)

    def test_a_loop_of_some_deeds(self):
        self.hand([loop(2, PUT, UP)], [one(1)], [rise(2)], [one(3)], [rise(4)])
        self.hand([DOWN, loop(2, PUT, UP), DOWN], [fall(1)], [one(2)], [rise(3)], [one(4)], [rise(5)], [fall(6)])

    def test_loops_within_one_another(self):
        self.hand([loop(2, PUT, loop(2, UP))], [one(1)], [rise(2)], [rise(3)], [one(4)], [rise(5)], [rise(6)])
        self.hand([loop(3, loop(2, UP))], *[[rise(place + 1)] for place in range(6)])

    def test_a_loop_of_a_choose(self):
        self.hand([loop(2, choose([PUT], []))], [idle(1), idle(2)], [one(2)], [idle(3), idle(4)], [one(4)])
        self.hand([loop(2, choose([PUT], [UP]))],
                  [idle(1), idle(2)], [one(3)], [rise(3)], [idle(4), idle(5)], [one(6)], [rise(6)])
        self.hand([loop(2, choose([], [PUT])), UP],
                  [idle(2), idle(1)], [one(2)], [idle(4), idle(3)], [one(4)], [rise(5)])

    def test_a_choose_of_loops(self):
        self.hand([choose([loop(2, UP)], [loop(3, DOWN)]), PUT],
                  [idle(1), idle(3)], [rise(2)], [rise(6)], [fall(4)], [fall(5)], [fall(6)], [one(7)])
        self.hand([choose([loop(2, choose([], []))], [UP])],
                  [idle(1), idle(3)], [idle(2), idle(2)], [idle(4), idle(4)], [rise(4)])

    def test_its_lists_are_its_own(self):
        shared = [PUT]
        for program in ([], [PUT], [loop(4, *shared)], [choose(shared, shared)], [loop(2, choose(shared, []))]):
            is_the_askers_own(self, made, BOXES, program)
        self.assertEqual(len({id(row) for row in lists_in(made(BOXES, [loop(8, PUT)]))}), 9)


# Programs of eight rows and of nine, and of very many, which would never be made in time.
EIGHT = [
    [PUT] * 8, [loop(8, PUT)], [loop(2, loop(4, PUT))], [loop(2, choose([PUT], [PUT, PUT]))], [choose([], [])] * 8,
    [choose([PUT] * 7, [])], [choose([PUT], [UP] * 2, [], [UP] * 4)], [choose([choose([PUT] * 6, [])], [])],
    [loop(4, PUT, loop(0, *[UP] * 8), UP)], [loop(8, choose([], []))],
]
NINE = [
    [loop(3, loop(3, PUT))], [loop(8, PUT), PUT], [PUT] * 7 + [loop(2, UP)], [loop(3, choose([PUT], [UP]))],
    [choose([PUT] * 8, [])], [choose([], [UP] * 8)], [choose([PUT] * 4, [UP] * 4)], [PUT] * 7 + [choose([UP], [])],
    [choose([PUT] * 2, [PUT] * 2, [PUT] * 2, [PUT] * 2)], [choose([choose([PUT] * 7, [])], [])],
    [PUT, loop(1, loop(1, *[UP] * 8))],
]
MANY = [
    [loop(8, loop(8, *[PUT] * 8))] * 8, [loop(8, choose([loop(8, PUT)] * 8, [loop(8, PUT)] * 8))] * 8,
    [loop(8, loop(8, choose([], [])))],
]


class TestTooMany(unittest.TestCase):
    def refused(self, tell, *things):
        with self.assertRaises(TooMany):
            tell(*things)

    def test_eight_rows(self):
        for program in EIGHT:
            self.assertEqual(len(made(BOXES, program_of(BOXES, program))), 8)

    def test_nine_rows_and_more(self):
        for program in NINE + MANY:
            self.refused(made, BOXES, program)

    def test_nine_are_one_more_than_eight(self):
        for program in NINE:
            kept = copy.deepcopy(program)
            self.refused(made, BOXES, program)
            self.assertEqual(program, kept)
            self.assertEqual(len(laid(program)), 9)

    def test_told_ahead_of_the_work(self):
        # Loops far deeper than a program has them: whatever went through their rows would never end.
        program = [UP] * 8
        for unused in range(30):
            program = [("loop", 8, program)]
        self.refused(made, BOXES, program)
        self.refused(comes_to, BOXES, program, (0, 0))

    def test_stands_come_to(self):
        for program in NINE + MANY:
            self.refused(comes_to, BOXES, program, (0, 0))
        for program in EIGHT:
            self.assertIsInstance(comes_to(BOXES, program, (0, 0)), list)

    def test_also_where_nothing_would_be_come_to(self):
        self.refused(comes_to, BOXES, [("wait", NO, ()), loop(8, UP)], (0, 0))
        self.refused(comes_to, BOXES, [("wait", NO, ())] + [loop(8, loop(8, UP))] * 7, (0, 0))


# What is promised of hands made, once more: rows with labels, whose places are known at last.

def laid(program):
    rows, places = [], {}
    end = object()
    lay(program, end, rows, places)
    places[end] = len(rows)
    return [[(guard, puts, place_at(places, label)) for guard, puts, label in row] for row in rows]


def place_at(places, label):
    while not isinstance(label, int):
        label = places[label]
    return label


def lay(program, on, rows, places):
    # Tells the label of where the program begins.
    if not program:
        return on
    begin, behind = object(), object()
    word = program[0][0]
    before = len(rows)
    if word == "put":
        rows.append([(YES, program[0][1], behind)])
    elif word == "wait":
        rows.append([(program[0][1], program[0][2], behind)])
    elif word == "choose":
        rows.append([])
        rows[before].extend([(YES, (), lay(inner, behind, rows, places)) for inner in program[0][1]])
    else:
        unrolled = [deed for unused in range(program[0][1]) for deed in program[0][2]]
        return lay(unrolled + program[1:], on, rows, places)
    places[begin] = before
    places[behind] = lay(program[1:], on, rows, places)
    return begin


def some_deed(chance, boxes, depth):
    leaves = [("box", k) for k in range(len(boxes))]
    word = chance.choice(["put", "put", "wait", "wait", "choose", "loop"] if depth > 1 else ["put", "wait"])
    if word == "choose":
        return choose(*[some_program(chance, boxes, depth - 1) for unused in range(chance.randrange(2, 5))])
    if word == "loop":
        return ("loop", chance.randrange(4), some_program(chance, boxes, depth - 1))
    put = sorted(chance.sample(range(len(boxes)), chance.randrange(len(boxes) + 1)))
    puts = tuple((k, some_sum(chance, leaves, chance.randrange(2))) for k in put)
    return ("put", puts) if word == "put" else ("wait", some_cond(chance, leaves, 1), puts)


def some_program(chance, boxes, depth):
    return [some_deed(chance, boxes, depth) for unused in range(chance.randrange(4))]


def come_from(boxes, program, stand):
    # By deeds, one stand at a time.
    if not program:
        return {stand}
    deed, rest = program[0], program[1:]
    if deed[0] == "loop":
        on = come_from(boxes, deed[2] * deed[1], stand)
    elif deed[0] == "choose":
        on = set().union(*[come_from(boxes, inner, stand) for inner in deed[1]])
    else:
        on = {stand_behind(boxes, (YES if deed[0] == "put" else deed[1], deed[-1], 0), stand)} - {None}
    return set().union(*[come_from(boxes, rest, further) for further in on])


class TestComesTo(unittest.TestCase):
    def told(self, program, stand, *found):
        self.assertEqual(comes_to(BOXES, program, stand), list(found))
        self.assertEqual(stands_at_end(BOXES, made(BOXES, program), stand), list(found))

    def test_the_empty_program(self):
        for stand in every_stand(BOXES):
            self.told([], stand, stand)
            self.told([loop(0, PUT)], stand, stand)
            self.told([loop(8)], stand, stand)

    def test_a_put(self):
        self.told([PUT], (0, 2), (1, 2))
        self.told([UP], (0, 2), (0, 3))
        self.told([IDLE], (0, 2), (0, 2))
        self.told([("put", ((0, Y), (1, X)))], (0, 1), (1, 0))

    def test_a_put_that_does_not_go(self):
        self.told([UP], (0, 3))
        self.told([DOWN], (1, 0))
        self.told([("put", ((0, Y), (1, X)))], (0, 2))

    def test_a_wait(self):
        self.told([WAIT], (1, 2), (1, 3))
        self.told([WAIT], (0, 2))
        self.told([WAIT], (1, 3))
        self.told([("wait", ("less", Y, number(2)), ())], (0, 1), (0, 1))

    def test_one_behind_the_other(self):
        self.told([PUT, WAIT, WAIT], (0, 0), (1, 2))
        self.told([WAIT, PUT], (0, 0))
        self.told([PUT, WAIT, WAIT], (0, 2))
        self.told([UP, UP, DOWN, UP, UP], (0, 0), (0, 3))
        self.told([UP, UP, UP, UP, DOWN, DOWN], (0, 0))

    def test_a_choose(self):
        self.told([choose([UP], [PUT])], (0, 0), (0, 1), (1, 0))
        self.told([choose([PUT], [UP], [])], (0, 0), (0, 0), (0, 1), (1, 0))
        self.told([choose([UP], [PUT])], (0, 3), (1, 3))
        self.told([choose([UP], [WAIT])], (0, 3))
        self.told([choose([], [])], (1, 1), (1, 1))

    def test_each_once(self):
        self.told([choose([UP], [UP, UP, DOWN], [UP])], (0, 0), (0, 1))
        self.told([choose([PUT], [UP, PUT], [UP]), DOWN], (0, 0), (0, 0), (1, 0))

    def test_rising(self):
        self.told([choose([PUT, UP], [PUT], [UP, UP], [])], (0, 0), (0, 0), (0, 2), (1, 0), (1, 1))

    def test_deeds_behind_a_choose_go_from_each_stand(self):
        self.told([choose([UP], [PUT]), WAIT], (0, 0), (1, 1))
        self.told([choose([], [PUT]), choose([], [UP])], (0, 0), (0, 0), (0, 1), (1, 0), (1, 1))

    def test_a_loop(self):
        self.told([loop(3, UP)], (0, 0), (0, 3))
        self.told([loop(4, UP)], (0, 0))
        self.told([PUT, loop(2, WAIT), DOWN], (0, 1), (1, 2))
        self.told([loop(2, choose([UP], []))], (0, 0), (0, 0), (0, 1), (0, 2))
        self.told([loop(2, loop(2, UP, DOWN))], (1, 2), (1, 2))
        self.told([loop(2, choose([UP, UP], [DOWN]))], (0, 1), (0, 2))

    def test_beside_the_hand_so_made(self):
        chance = random.Random(10)
        seen = {}
        for unused in range(700):
            boxes = some_boxes(chance)
            program = some_program(chance, boxes, 3)
            self.assertEqual(program_of(boxes, program), program)
            rows = laid(program)
            if len(rows) > 8:
                self.assertRaises(TooMany, made, boxes, program)
                self.assertRaises(TooMany, comes_to, boxes, program, (0,) * len(boxes))
                seen["many"] = seen.get("many", 0) + 1
                continue
            self.assertEqual(made(boxes, program), rows)
            for stand in every_stand(boxes):
                told = comes_to(boxes, program, stand)
                self.assertEqual(told, sorted(come_from(boxes, program, stand)))
                self.assertEqual(told, stands_at_end(boxes, rows, stand))
                seen[len(told)] = seen.get(len(told), 0) + 1
        self.assertGreater(min(seen[key] for key in ("many", 0, 1, 2, 3)), 20)

    def test_its_lists_are_its_own(self):
        for program in ([], [PUT], [choose([], [PUT])], [loop(2, choose([], [PUT]))], [WAIT]):
            is_the_askers_own(self, comes_to, BOXES, program, (0, 0))


if __name__ == "__main__":
    unittest.main()
