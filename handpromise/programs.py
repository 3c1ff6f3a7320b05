"""Programs: deeds one behind the other, made hands, and the stands that they come to alone."""

from handpromise.errors import NoHand, NoProgram, TooMany
from handpromise.hands import MOST_ROWS, behind, check_guard, check_puts
from handpromise.kinds import is_whole_within

MOST_DEEDS = 8
LEAST_PROGRAMS = 2
MOST_PROGRAMS = 4
MOST_TIMES = 8
MOST_DEEP = 3

# How many things a deed has, its word among them.
DEED_COUNTS = {"put": 2, "wait": 3, "choose": 2, "loop": 3}


def program_of(boxes, thing):
    return program_within(boxes, thing, 1)


# The depth is looked at first: a program that stands within itself comes to an end here.
def program_within(boxes, thing, depth):
    if depth > MOST_DEEP:
        raise NoProgram("programs are at most three deep within one another")
    if not isinstance(thing, list) or len(thing) > MOST_DEEDS:
        raise NoProgram("a program is a list of none to eight deeds")
    return [deed_of(boxes, deed, depth) for deed in thing]


def deed_of(boxes, thing, depth):
    if not isinstance(thing, tuple) or len(thing) == 0 or not isinstance(thing[0], str):
        raise NoProgram("a deed is a tuple that begins with a word")
    word = thing[0]
    if DEED_COUNTS.get(word) != len(thing):
        raise NoProgram("a deed is a put, wait, choose or loop, with as many things as go with it")
    if word == "choose":
        return (word, programs_within(boxes, thing[1], depth + 1))
    if word == "loop":
        return (word, times_of(thing[1]), program_within(boxes, thing[2], depth + 1))
    check_way_of(boxes, thing)
    return thing


def programs_within(boxes, thing, depth):
    if not isinstance(thing, list) or not LEAST_PROGRAMS <= len(thing) <= MOST_PROGRAMS:
        raise NoProgram("a choose has a list of two to four programs")
    return [program_within(boxes, one, depth) for one in thing]


def times_of(thing):
    if not is_whole_within(thing, 0, MOST_TIMES):
        raise NoProgram("a loop's times are a whole number from 0 to 8")
    return thing


def check_way_of(boxes, deed):
    try:
        check_guard(boxes, guard_of(deed))
        check_puts(boxes, deed[-1])
    except NoHand:
        raise NoProgram("the guard and puts of a deed are as those of a way") from None


def guard_of(deed):
    return deed[1] if deed[0] == "wait" else ("yes",)


def way_to(deed, place):
    return (guard_of(deed), deed[-1], place)


def made(boxes, program):
    check_rows(program)
    return rows_from(program, 0, count_rows(program))


# Reckoned without making the rows: loops within loops would come to very many.
def check_rows(program):
    if count_rows(program) > MOST_ROWS:
        raise TooMany("a program is made a hand of at most eight rows")


def count_rows(program):
    return sum([count_deed_rows(deed) for deed in program])


def count_deed_rows(deed):
    if deed[0] == "choose":
        return 1 + sum([count_rows(program) for program in deed[1]])
    return deed[1] * count_rows(deed[2]) if deed[0] == "loop" else 1


# The program's rows begin at a place, and lead on at their end to another one: of a program within a choose this isn't
# behind its own rows, where the next program's may stand.
def rows_from(program, begin, on):
    deeds = unrolled(program)
    rows = []
    for number, deed in enumerate(deeds):
        here = begin + len(rows)
        last = number == len(deeds) - 1
        rows.extend(deed_rows(deed, here, on if last else here + count_deed_rows(deed)))
    return rows


# Without loops each deed has a row: what leads to the next deed leads to a row of it.
def unrolled(program):
    deeds = []
    for deed in program:
        deeds.extend(unrolled(deed[2]) * deed[1] if deed[0] == "loop" else [deed])
    return deeds


def deed_rows(deed, here, on):
    return choose_rows(deed[1], here, on) if deed[0] == "choose" else [[way_to(deed, on)]]


def choose_rows(programs, here, on):
    ways = []
    rows = []
    for program in programs:
        begin = here + 1 + len(rows)
        inner = rows_from(program, begin, on)
        ways.append((("yes",), (), begin if inner else on))
        rows.extend(inner)
    return [ways] + rows


def comes_to(boxes, program, stand):
    check_rows(program)
    return come_from(boxes, program, [stand])


def come_from(boxes, program, reached):
    for deed in program:
        reached = come_by_deed(boxes, deed, reached)
    return reached


def come_by_deed(boxes, deed, reached):
    if deed[0] == "loop":
        return come_from(boxes, deed[2] * deed[1], reached)
    found = []
    if deed[0] == "choose":
        for program in deed[1]:
            found.extend(come_from(boxes, program, reached))
    else:
        way = way_to(deed, 0)
        found = [behind(boxes, way, stand) for stand in reached]
    return sorted(set([stand for stand in found if stand is not None]))
