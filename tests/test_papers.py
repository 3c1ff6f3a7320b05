import copy
import random
import unittest

from handpromise.errors import NoPaper, PromiseError
from handpromise.houses import house_of
from handpromise.papers import look_house, looked
from tests.helper import (
    HUGE, NO, ONE, OTHER_KINDS, X, X_AFTER, Y, Y_AFTER, YES, breaks_of, deep_kinds, every_stand, every_step,
    is_the_askers_own, number, put, some_boxes, some_cond, some_parts, some_task, tame_parts, task_of, up, wait,
    weakest_by_rounds,
)

# One box; the hand counts up or stays, and then puts it to 0; one of the others counts from 0 to 1, the next one makes
# 2 of 1 and of 3.
BOXES = [("x", 3)]
HAND = [[up(0, 1), (YES, (), 0)], [put(0, 0, 2)]]
PROMISE = [
    ((0,), (1,)), ((1,), (0,)), ((1,), (2,)), ((2,), (0,)), ((2,), (3,)), ((3,), (0,)),
]
OTHERS = [[((0,), (1,))], [((1,), (2,)), ((3,), (2,))]]
NOTES = [("less", X, number(3)), ("less", number(0), X), ("less", X, number(3))]
BEGIN = ("is", X, number(0))
PAPER = [[(0,), (1,), (2,)], [(1,), (2,), (3,)], [(0,), (1,), (2,)]]
TASK = (BOXES, HAND, PROMISE, OTHERS, NOTES)
LOOK = TASK + (BEGIN, PAPER)

THINGS = {"boxes": 0, "hand": 1, "promise": 2, "others": 3, "notes": 4, "begin": 5, "paper": 6}

NO_STANDS = [thing for thing in OTHER_KINDS] + [
    (), (0, 0), (0, 1, 2), (4,), (-1,), (HUGE,), (-HUGE,), (True,), (False,), (0.0,), ("0",), (None,), ((0,),), ([0],),
    [0], "0", {0: 0}, "(0,)",
]


def with_changes(**changes):
    things = list(copy.deepcopy(LOOK))
    for name, thing in changes.items():
        things[THINGS[name]] = thing
    return things


def paper_with(place, listed):
    paper = copy.deepcopy(PAPER)
    paper[place] = listed
    return paper


def without(steps, *pairs):
    return [step for step in steps if step not in pairs]


class Papers(unittest.TestCase):
    def told(self, expected, **changes):
        self.assertEqual(looked(*with_changes(**changes)), expected)

    def no_paper(self, paper, **changes):
        with self.assertRaises(PromiseError) as caught:
            looked(*with_changes(paper=paper, **changes))
        self.assertIs(type(caught.exception), NoPaper)


class TestEachBreakAlone(Papers):
    def test_no_break(self):
        self.told(None)
        self.assertEqual(breaks_of(TASK, BEGIN, PAPER), [])

    def test_begin(self):
        self.told(("begin", (0,)), paper=paper_with(0, [(1,), (2,)]))
        self.told(("begin", (3,)), begin=("is", X, number(3)))
        self.told(("begin", (3,)), begin=YES)
        self.told(None, begin=("less", X, number(3)))

    def test_begin_is_asked_of_the_first_place_alone(self):
        self.told(None, begin=NO, paper=[[], [(1,), (2,), (3,)], [(0,), (1,), (2,)]])
        self.told(("begin", (0,)), paper=[[], [(1,), (2,), (3,)], [(0,), (1,), (2,)]])

    def test_note(self):
        self.told(("note", 0, (2,)), notes=[("less", X, number(2))] + NOTES[1:])
        self.told(("note", 1, (3,)), notes=[NOTES[0], ("less", X, number(3)), NOTES[2]])
        self.told(("note", 2, (0,)), notes=NOTES[:2] + [("less", number(0), X)])
        self.told(("note", 0, (0,)), notes=[NO, NO, NO])

    def test_own(self):
        self.told(("own", 0, (2,), 0), paper=paper_with(1, [(1,), (2,)]), others=[[], []])
        self.told(("own", 0, (0,), 0), paper=paper_with(1, [(2,), (3,)]))
        self.told(("own", 1, (1,), 0), paper=paper_with(2, [(1,), (2,)]))
        self.told(("own", 1, (1,), 0), paper=paper_with(2, []))

    def test_own_by_a_later_way(self):
        hand = [[up(0, 1), (YES, (), 0), (("is", X, number(2)), (), 2), put(0, 3, 2)], HAND[1]]
        self.told(("own", 0, (0,), 3), hand=hand, promise=every_step(BOXES, YES))
        hand[0].pop()
        self.told(None, hand=hand)
        self.told(("own", 0, (2,), 2), hand=hand, paper=paper_with(2, [(0,), (1,)]), others=[OTHERS[0], []])

    def test_promise(self):
        self.told(("promise", 0, (0,), 0), promise=PROMISE[1:])
        self.told(("promise", 0, (2,), 0), promise=without(PROMISE, ((2,), (3,))))
        self.told(("promise", 1, (1,), 0), promise=without(PROMISE, ((1,), (0,))))
        self.told(("promise", 1, (3,), 0), promise=PROMISE[:-1])
        self.told(("promise", 0, (0,), 0), promise=[])

    def test_a_step_back_is_another_one(self):
        self.told(("promise", 0, (0,), 0), promise=every_step(BOXES, ("less", X_AFTER, X)))

    def test_promise_by_a_later_way(self):
        hand = [[(YES, (), 0), up(0, 1)], HAND[1]]
        self.told(("promise", 0, (1,), 1), hand=hand, promise=without(PROMISE, ((1,), (2,))))

    def test_other(self):
        self.told(("other", 0, (2,), 0, (3,)), others=[[((0,), (1,)), ((2,), (3,))], OTHERS[1]])
        self.told(("other", 0, (2,), 1, (3,)), others=[OTHERS[0], [((1,), (2,)), ((2,), (3,)), ((3,), (2,))]])
        self.told(("other", 1, (1,), 2, (0,)), others=OTHERS + [[((1,), (0,))]])
        self.told(("other", 1, (3,), 0, (0,)), others=[[((3,), (0,))]])
        self.told(("other", 2, (0,), 0, (3,)), others=[[((0,), (3,))]], paper=[[], PAPER[1], PAPER[2]], begin=NO)

    def test_a_way_that_changes_nothing(self):
        stay = [[(YES, (), 1)]]
        self.told(None, hand=stay, promise=[], others=[], notes=[YES, YES], paper=[[(0,)], [(0,)]])
        self.told(("own", 0, (0,), 0), hand=stay, promise=[], others=[], notes=[YES, YES], paper=[[(0,)], [(1,)]])
        same = [[(YES, ((0, X),), 0)]]
        self.told(None, hand=same, promise=[], others=[], notes=[YES, YES], paper=[[(0,), (2,)], []])

    def test_ways_that_do_not_go(self):
        hand = [[put(0, 4, 1), wait(0, 1, 1), (YES, ((0, ("minus", X, ONE)),), 0)]]
        self.told(None, hand=hand, promise=[], others=[], notes=[YES, YES], paper=[[(0,)], []])
        self.told(("own", 0, (1,), 1), hand=hand, promise=[], others=[], notes=[YES, YES], paper=[[(0,), (1,)], []])

    def test_steps_of_stands_that_the_lists_lack(self):
        self.told(None, others=[OTHERS[0], OTHERS[1], [((3,), (2,))]], paper=PAPER)
        self.told(None, hand=[], promise=[], notes=[YES], others=[[((1,), (2,)), ((3,), (0,))]], paper=[[(0,), (2,)]])


class TestEdges(Papers):
    def test_a_paper_with_empty_lists(self):
        self.told(("begin", (0,)), paper=[[], [], []])
        self.told(None, paper=[[], [], []], begin=NO)
        self.told(None, paper=[[], [], []], begin=NO, notes=[NO, NO, NO], promise=[], others=[])

    def test_a_hand_of_no_rows(self):
        rest = {"hand": [], "promise": []}
        self.told(None, notes=[YES], others=[], paper=[[(0,)]], **rest)
        self.told(("begin", (0,)), notes=[YES], others=[], paper=[[]], **rest)
        self.told(("note", 0, (0,)), notes=[NO], others=[], paper=[[(0,)]], **rest)
        self.told(("other", 0, (0,), 0, (1,)), notes=[YES], others=OTHERS, paper=[[(0,)]], **rest)
        self.told(("other", 0, (1,), 1, (2,)), notes=[YES], others=OTHERS, paper=[[(0,), (1,)]], **rest)
        self.told(None, notes=[YES], others=OTHERS, paper=[[(0,), (1,), (2,)]], **rest)

    def test_no_others_one_and_two(self):
        gone_on = [((2,), (3,))]
        self.told(None, others=[])
        self.told(None, others=[[]])
        self.told(None, others=[[], []])
        self.told(("other", 0, (2,), 0, (3,)), others=[gone_on])
        self.told(("other", 0, (2,), 0, (3,)), others=[gone_on, []])
        self.told(("other", 0, (2,), 1, (3,)), others=[[], gone_on])
        self.told(("other", 0, (2,), 0, (3,)), others=[gone_on, gone_on])

    def test_one_list_of_steps_as_promise_and_others(self):
        every = every_step(BOXES, YES)
        full = [every_stand(BOXES) for unused in range(3)]
        things = (BOXES, HAND, every, [every, every], [YES] * 3, YES, full)
        self.assertIsNone(looked(*things))
        self.assertEqual(looked(*things[:3], [[], every], *things[4:6], paper_with(0, [])), ("begin", (0,)))

    def test_of_twenty_four_stands_and_nine_places(self):
        boxes = [("x", 3), ("y", 5)]
        every = every_step(boxes, YES)
        turned = (1, ("minus", number(5), Y))
        hand = [[(YES, ((0, number(k)), turned), place + 1) for k in range(4)] for place in range(8)]
        paper = [every_stand(boxes) for unused in range(9)]
        self.assertIsNone(looked(boxes, hand, every, [every, every], [YES] * 9, YES, paper))
        paper[8].pop()
        self.assertEqual(looked(boxes, hand, every, [every, every], [YES] * 9, YES, paper), ("own", 7, (0, 0), 3))
        self.assertEqual(
            looked(boxes, [], every, [[], every], [YES], NO, paper[8:]), ("other", 0, (0, 0), 1, (3, 5)),
        )


class TestOrder(Papers):
    def test_begin_ahead_of_all(self):
        for place in range(3):
            notes = list(NOTES)
            notes[place] = NO
            self.told(("begin", (3,)), begin=("less", X, number(4)), notes=notes)
            self.told(("begin", (0,)), begin=YES, notes=notes, promise=[], paper=paper_with(0, [(1,), (3,)]))

    def test_the_first_start(self):
        self.told(("begin", (1,)), begin=YES, paper=paper_with(0, [(0,), (3,)]))
        self.told(("begin", (2,)), begin=("less", ONE, X), paper=paper_with(0, []))

    def test_place_by_place(self):
        self.told(("note", 0, (2,)), notes=[("less", X, number(2)), NO, NO])
        self.told(("note", 1, (1,)), notes=[NOTES[0], NO, NO])
        # Here the note of place 1 ahead of the other's step at place 2, though that stand is a lesser one.
        self.told(("note", 1, (3,)), notes=[YES, ("less", X, number(3)), YES], others=[[((0,), (3,))]],
                  paper=[[(2,)], [(3,)], [(0,)]], begin=NO)
        self.told(("promise", 0, (2,), 0), promise=without(PROMISE, ((2,), (3,))), notes=[YES, NO, YES])

    def test_stand_by_stand(self):
        # The first stand's last look ahead of the second one's first.
        self.told(("other", 0, (0,), 0, (3,)), others=[[((0,), (3,))]], notes=[("is", X, number(0))] + NOTES[1:])
        self.told(("promise", 0, (0,), 0), promise=PROMISE[1:], notes=[("is", X, number(0))] + NOTES[1:])
        self.told(("own", 0, (0,), 0), paper=[[(0,), (1,)], [(2,), (3,)], PAPER[2]], notes=[BEGIN, YES, YES])

    def test_the_note_ahead_of_the_ways(self):
        self.told(("note", 0, (0,)), notes=[NO, YES, YES], promise=[])
        self.told(("note", 0, (0,)), notes=[NO, YES, YES], paper=paper_with(1, []))
        self.told(("note", 0, (0,)), notes=[NO, YES, YES], others=[[((0,), (3,))]])

    def test_own_ahead_of_promise_of_one_way(self):
        self.told(("own", 0, (0,), 0), promise=[], paper=paper_with(1, []))
        self.told(("own", 1, (1,), 0), promise=without(PROMISE, ((1,), (0,))), paper=paper_with(2, [(1,), (2,)]))

    def test_the_first_way_s_promise_ahead_of_the_second_way_s_own(self):
        hand = [[put(0, 1, 0), put(0, 2, 1)]]
        rest = {"hand": hand, "others": [], "notes": [YES, YES], "paper": [[(0,), (1,)], [(3,)]]}
        self.told(("promise", 0, (0,), 0), promise=[], **rest)
        self.told(("own", 0, (0,), 1), promise=[((0,), (1,))], **rest)

    def test_the_ways_ahead_of_the_others(self):
        self.told(("own", 0, (0,), 0), paper=paper_with(1, []), others=[[((0,), (3,))]])
        self.told(("promise", 0, (0,), 0), promise=[], others=[[((0,), (3,))]])
        self.told(("other", 0, (0,), 0, (3,)), promise=[], others=[[((0,), (3,))]], hand=[[(YES, (), 0)], HAND[1]])

    def test_the_others_by_their_numbers_then_their_steps(self):
        self.told(("other", 0, (0,), 0, (3,)), others=[[((0,), (3,))], [((0,), (2,)), ((0,), (3,))]])
        self.told(("other", 0, (0,), 0, (1,)), others=[[((0,), (1,)), ((0,), (3,))]], paper=[[(0,)], [(1,)], [(0,)]])
        self.told(("other", 0, (0,), 0, (2,)), others=[[((0,), (1,)), ((0,), (2,)), ((0,), (3,))]],
                  paper=[[(0,), (1,)], [(1,), (2,)], [(0,)]])

    def test_mended_one_after_another(self):
        rising = every_step(BOXES, ("less", X, X_AFTER))
        things = with_changes(
            hand=[[put(0, 1, 1), put(0, 2, 1)], [up(0, 2)]], promise=[], others=[[((0,), (3,))], [((1,), (2,))]],
            notes=[NO, NO, NO], paper=[[], [(1,)], []], begin=("less", X, ONE),
        )
        for expected, at, mended in (
            (("begin", (0,)), "paper", [[(0,)], [(1,)], []]),
            (("note", 0, (0,)), "notes", [YES, NO, NO]),
            (("promise", 0, (0,), 0), "promise", [((0,), (1,))]),
            (("own", 0, (0,), 1), "paper", [[(0,)], [(1,), (2,)], []]),
            (("promise", 0, (0,), 1), "promise", [((0,), (1,)), ((0,), (2,))]),
            (("other", 0, (0,), 0, (3,)), "paper", [[(0,), (3,)], [(1,), (2,)], []]),
            (("promise", 0, (3,), 0), "promise", [((0,), (1,)), ((0,), (2,)), ((3,), (1,)), ((3,), (2,))]),
            (("note", 1, (1,)), "notes", [YES, YES, NO]),
            (("own", 1, (1,), 0), "paper", [[(0,), (3,)], [(1,), (2,)], [(2,), (3,)]]),
            (("promise", 1, (1,), 0), "promise", rising + [((3,), (1,)), ((3,), (2,))]),
            (("note", 2, (2,)), "notes", [YES, YES, YES]),
            (None, "begin", NO),
        ):
            self.assertEqual(looked(*things), expected)
            things[THINGS[at]] = mended
        self.assertIsNone(looked(*things))


def some_paper(chance, task, changes):
    # Near to one that fits: so that the breaks are few.
    every = every_stand(task[0])
    paper = [set(listed) for listed in weakest_by_rounds(task)]
    for unused in range(chance.choice(changes)):
        paper[chance.randrange(len(paper))] ^= {chance.choice(every)}
    return [sorted(listed) for listed in paper]


class TestByChance(Papers):
    def test_the_first_of_all_breaks(self):
        chance = random.Random(20)
        seen = {}
        for unused in range(1500):
            task = some_task(chance, some_boxes(chance), 3)
            paper = some_paper(chance, task, [0, 0, 1, 1, 2, 3, 8])
            if chance.random() < 0.3:
                task[2][:] = [step for step in task[2] if chance.random() < 0.8]
            begin = some_cond(chance, [X], 0) if chance.random() < 0.4 else NO
            found = breaks_of(task, begin, paper)
            told = looked(*task, begin, paper)
            self.assertEqual(told, found[0] if found else None)
            key = told and told[0]
            seen[key] = seen.get(key, 0) + 1
        for key in (None, "begin", "note", "own", "promise", "other"):
            self.assertGreater(seen[key], 20, key)


class TestNoPaper(Papers):
    def test_no_list(self):
        for paper in OTHER_KINDS + [tuple(PAPER), {0: PAPER[0]}, dict(enumerate(PAPER)), iter(PAPER), "paper"]:
            self.no_paper(paper)
            self.no_paper(paper, hand=[], notes=[YES])
        for paper in deep_kinds():
            self.no_paper(paper)
            self.no_paper(paper, hand=[], notes=[YES])

    def test_too_few_and_too_many_lists(self):
        for paper in ([], PAPER[:1], PAPER[:2], PAPER + [[]], PAPER + PAPER, [[]] * 2, [[]] * 4, [[]] * 1000):
            self.no_paper(paper)
            self.no_paper(paper, begin=NO)
        for paper in ([], [[], []], [[(0,)], [(0,)]]):
            self.no_paper(paper, hand=[], notes=[YES])

    def test_a_thing_in_it_that_is_no_list(self):
        for place in range(3):
            for thing in OTHER_KINDS + [tuple(PAPER[place]), (0,), {(0,): True}, set(PAPER[place]), iter(PAPER[place])]:
                if thing != []:
                    self.no_paper(paper_with(place, thing))
            for thing in deep_kinds():
                self.no_paper(paper_with(place, thing))

    def test_a_thing_in_these_that_is_no_stand(self):
        for place in range(3):
            for thing in NO_STANDS:
                self.no_paper(paper_with(place, [thing]))
                self.no_paper(paper_with(place, [thing] + PAPER[place]))
                self.no_paper(paper_with(place, PAPER[place] + [thing]))
                self.no_paper(paper_with(place, PAPER[place][:1] + [thing] + PAPER[place][1:]))
            for thing in deep_kinds():
                self.no_paper(paper_with(place, [thing]))
                self.no_paper(paper_with(place, PAPER[place] + [thing]))

    def test_a_truth_in_a_stand(self):
        self.no_paper(paper_with(0, [(False,), (True,), (2,)]))
        self.no_paper(paper_with(0, [(0,), (True,), (2,)]))
        boxes = [("x", 1), ("y", 1)]
        for stand in ((0, True), (False, 1), (True, True)):
            with self.assertRaises(NoPaper):
                looked(boxes, [], [], [], [YES], NO, [[(0, 0), stand]])

    def test_a_stand_of_other_boxes(self):
        boxes = [("x", 3), ("y", 1)]
        with self.assertRaises(NoPaper):
            looked(boxes, HAND, [], [], NOTES, NO, PAPER)
        with self.assertRaises(NoPaper):
            looked(boxes, [], [], [], [YES], NO, [[(1, 2)]])
        self.assertIsNone(looked(boxes, [], [], [], [YES], NO, [[(2, 1)]]))

    def test_not_rising_and_twice(self):
        for place in range(3):
            one, two, three = PAPER[place]
            for listed in ([two, one], [one, three, two], [three, two, one], [one, one], [one, two, two],
                           [one, two, one], [two, one, three], [one] * 1000, PAPER[place] * 2):
                self.no_paper(paper_with(place, listed))

    def test_rising_as_tuples_are_compared(self):
        boxes = [("x", 1), ("y", 2)]
        for listed in ([(0, 2), (1, 0)], [(0, 0), (0, 2), (1, 1)]):
            self.assertIsNone(looked(boxes, [], [], [], [YES], NO, [listed]))
        for listed in ([(1, 0), (0, 2)], [(0, 0), (1, 0), (0, 1)]):
            with self.assertRaises(NoPaper):
                looked(boxes, [], [], [], [YES], NO, [listed])

    def test_ahead_of_all_breaks(self):
        spoiled = {"begin": YES, "notes": [NO, NO, NO], "promise": [], "others": [every_step(BOXES, YES)]}
        for paper in ([], PAPER[:2], paper_with(2, None), paper_with(2, [(0,), (4,)]), paper_with(2, [(1,), (0,)]),
                      paper_with(2, [(0,), (0,)]), [[], [], [None]], paper_with(0, [(3,), (1,)])):
            self.no_paper(paper, **spoiled)

    def test_lists_of_a_thousand_things(self):
        self.no_paper(paper_with(1, [(k,) for k in range(1000)]))
        self.no_paper([[(0,)]] * 1000)
        self.no_paper(paper_with(1, PAPER[1] + [None] * 997))

    def test_what_is_refused_stays_and_changes_no_later_answer(self):
        for paper in ([], PAPER[:2], paper_with(2, None), paper_with(2, [(1,), (0,)])):
            things = with_changes(paper=paper)
            kept = copy.deepcopy(things)
            with self.assertRaises(NoPaper):
                looked(*things)
            self.assertEqual(things, kept)
            self.told(None)


def house_with(count):
    # Each hand counts its own box from 0 to 1, and promises to leave the other boxes as they are.
    boxes = [("abc"[k], 1) for k in range(count)]
    stays = [("is", ("after", k), ("box", k)) for k in range(count)]
    hands, promises, notes = [], [], []
    for at in range(count):
        hands.append([[up(at, 1)]])
        promise = ("not", ("less", ("after", at), ("box", at)))
        for k in range(count):
            promise = promise if k == at else ("both", promise, stays[k])
        promises.append(promise)
        notes.append([("is", ("box", at), number(0)), ("is", ("box", at), ONE)])
    begin = ("is", sum_of_boxes(count), number(0))
    return house_of(boxes, begin, hands, promises, notes)


def sum_of_boxes(count):
    one = ("box", 0)
    for k in range(1, count):
        one = ("plus", one, ("box", k))
    return one


def papers_of(whole):
    # At place 0 its own box holds 0, at its end 1; the others hold what they like.
    every = every_stand(whole[0])
    return [[[stand for stand in every if stand[at] == n] for n in (0, 1)] for at in range(len(whole[2]))]


class TestLookHouse(unittest.TestCase):
    def refused(self, whole, papers):
        with self.assertRaises(PromiseError) as caught:
            look_house(whole, papers)
        self.assertIs(type(caught.exception), NoPaper)

    def test_no_break_of_one_two_and_three_hands(self):
        for count in (1, 2, 3):
            whole = house_with(count)
            self.assertIsNone(look_house(whole, papers_of(whole)))

    def test_the_first_hand_that_breaks(self):
        whole = house_with(3)
        for at in range(3):
            papers = papers_of(whole)
            for later in range(at, 3):
                papers[later][0].pop(0)
            self.assertEqual(look_house(whole, papers), (at, ("begin", (0, 0, 0))))

    def test_kinds(self):
        whole = house_with(2)
        papers = papers_of(whole)
        papers[1][1] = []
        told = look_house(whole, papers)
        self.assertEqual(told, (1, ("own", 0, (0, 0), 0)))
        self.assertEqual([type(one) for one in (told,) + told], [tuple, int, tuple])

    def test_each_kind_of_break(self):
        boxes, begin, hands, promises, notes = house_with(2)
        papers = papers_of((boxes, begin, hands))
        spoiled = house_of(boxes, begin, hands, promises, [notes[0], [notes[1][0], NO]])
        self.assertEqual(look_house(spoiled, papers), (1, ("note", 1, (0, 1))))
        spoiled = house_of(boxes, begin, hands, [promises[0], ("is", Y_AFTER, Y)], notes)
        self.assertEqual(look_house(spoiled, papers), (0, ("other", 0, (0, 0), 0, (1, 0))))
        spoiled = house_of(boxes, begin, hands, [("is", X_AFTER, X), promises[1]], notes)
        self.assertEqual(look_house(spoiled, papers), (0, ("promise", 0, (0, 0), 0)))
        spoiled = house_of(boxes, YES, hands, promises, notes)
        self.assertEqual(look_house(spoiled, papers), (0, ("begin", (1, 0))))

    def test_the_others_numbers_for_each_of_three_hands(self):
        # One box; only one hand promises to do something to it.
        for at in range(3):
            for does in range(3):
                promises = [YES if k == does else NO for k in range(3)]
                whole = house_of([("x", 1)], ("is", X, number(0)), [[], [], []], promises, [[YES]] * 3)
                papers = [[[(0,), (1,)]] for unused in range(3)]
                papers[at] = [[(0,)]]
                if at == does:
                    self.assertIsNone(look_house(whole, papers))
                else:
                    of_others = [k for k in range(3) if k != at].index(does)
                    self.assertEqual(look_house(whole, papers), (at, ("other", 0, (0,), of_others, (1,))))

    def test_the_second_of_three(self):
        whole = house_of([("x", 2)], ("is", X, number(0)), [[], [], []], [
            ("is", X_AFTER, ONE), ("is", X_AFTER, number(9)), ("is", X_AFTER, number(2)),
        ], [[YES]] * 3)
        full = [[(0,), (1,), (2,)]]
        self.assertEqual(look_house(whole, [full, [[(0,), (2,)]], full]), (1, ("other", 0, (0,), 0, (1,))))
        self.assertEqual(look_house(whole, [full, [[(0,), (1,)]], full]), (1, ("other", 0, (0,), 1, (2,))))

    def test_the_rows_of_the_others_are_not_asked(self):
        # The first hand promises more than it does, and less: only what it promises is asked of the second one.
        for promise, expected in ((YES, (1, ("other", 0, (0,), 0, (1,)))), (NO, None)):
            for rows in ([], [[(YES, (), 0)]]):
                notes = [[YES] * (len(rows) + 1), [YES]]
                whole = house_of([("x", 1)], ("is", X, number(0)), [rows, []], [promise, NO], notes)
                full = [[(0,), (1,)] for unused in notes[0]]
                self.assertEqual(look_house(whole, [full, [[(0,)]]]), expected)
        against = house_of([("x", 1)], NO, [[], [[put(0, 1, 1)]]], [NO, NO], [[YES], [YES, YES]])
        self.assertEqual(look_house(against, [[[(0,)]], [[(0,)], [(1,)]]]), (1, ("promise", 0, (0,), 0)))

    def test_no_list_of_as_many_papers(self):
        for count in (1, 2, 3):
            whole = house_with(count)
            papers = papers_of(whole)
            for thing in OTHER_KINDS + [tuple(papers), dict(enumerate(papers)), iter(papers), papers[:-1], papers * 2,
                                        papers + [[]], papers + [papers[0]], papers + [None], [papers] * 1000]:
                self.refused(whole, thing)
            for thing in deep_kinds():
                self.refused(whole, thing)

    def test_papers_of_another_count_ahead_of_every_break(self):
        whole = house_with(2)
        papers = papers_of(whole)
        papers[0][0] = []
        self.assertEqual(look_house(whole, papers), (0, ("begin", (0, 0))))
        self.refused(whole, papers[:1])
        self.refused(whole, papers + [papers[0]])
        self.refused(whole, [])

    def test_a_paper_that_is_none(self):
        for count in (1, 2, 3):
            whole = house_with(count)
            for at in range(count):
                papers = papers_of(whole)
                for thing in OTHER_KINDS + [tuple(papers[at]), papers[at][:1], papers[at] + [[]], [[None], []],
                                            [papers[at][0][::-1] * 2, []]]:
                    papers[at] = thing
                    self.refused(whole, papers)

    def test_an_earlier_break_ahead_of_a_later_paper_that_is_none(self):
        whole = house_with(3)
        for thing in (None, [], [[], [None]], [[], [], []]):
            papers = papers_of(whole)
            papers[0][1] = []
            papers[1] = thing
            self.assertEqual(look_house(whole, papers), (0, ("own", 0, (0, 0, 0), 0)))
            papers = papers_of(whole)
            papers[1][0] = []
            papers[2] = thing
            self.assertEqual(look_house(whole, papers), (1, ("begin", (0, 0, 0))))

    def test_an_earlier_paper_that_is_none_ahead_of_a_later_break(self):
        whole = house_with(3)
        papers = papers_of(whole)
        papers[1] = None
        papers[2][0] = []
        self.refused(whole, papers)

    def test_by_chance(self):
        chance = random.Random(23)
        seen = {}
        for seed in range(200):
            whole = house_of(*(tame_parts(seed) if seed % 4 else some_parts(seed)))
            tasks = [task_of(whole, at) for at in range(len(whole[2]))]
            papers = [some_paper(chance, task, [0, 0, 0, 0, 1]) for task in tasks]
            found = [(at, broken) for at, task in enumerate(tasks) for broken in breaks_of(task, whole[1], papers[at])]
            told = look_house(whole, papers)
            self.assertEqual(told, found[0] if found else None)
            seen[told and told[0]] = seen.get(told and told[0], 0) + 1
        for key in (None, 0, 1, 2):
            self.assertGreater(seen[key], 3, key)


class TestPapersAreTheAskersOwn(unittest.TestCase):
    def test_looked(self):
        is_the_askers_own(self, looked, *LOOK)
        on = [((2,), (3,))]
        for changes in ({"paper": paper_with(0, [])}, {"promise": []}, {"others": [on]}, {"notes": [NO] * 3}):
            is_the_askers_own(self, looked, *with_changes(**changes))

    def test_look_house(self):
        whole = house_with(3)
        papers = papers_of(whole)
        is_the_askers_own(self, look_house, whole, papers)
        papers[2][0] = []
        is_the_askers_own(self, look_house, whole, papers)

    def test_one_list_in_many_places(self):
        listed = [(0,), (1,), (2,), (3,)]
        paper = [listed, listed, listed]
        every = every_step(BOXES, YES)
        self.assertIsNone(looked(BOXES, HAND, every, [every, every], [YES] * 3, YES, paper))
        self.assertEqual(paper, [[(0,), (1,), (2,), (3,)]] * 3)
        paper = [[(0,), (1,)]]
        whole = house_of([("x", 1)], YES, [[], [], []], [YES] * 3, [[YES]] * 3)
        self.assertIsNone(look_house(whole, [paper, paper, paper]))

    def test_the_paper_of_the_call_counts(self):
        things = with_changes()
        self.assertIsNone(looked(*things))
        things[6][1].pop()
        self.assertEqual(looked(*things), ("own", 0, (2,), 0))
        things[6][1].append((3,))
        self.assertIsNone(looked(*things))
        things[2].pop(0)
        self.assertEqual(looked(*things), ("promise", 0, (0,), 0))


if __name__ == "__main__":
    unittest.main()
