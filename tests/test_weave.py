import copy
import unittest

from handpromise.errors import NoStart, NoStep, PromiseError
from handpromise.houses import house_of
from handpromise.stands import stands
from handpromise.weave import all_states, ends, gone, stuck, weaving_to, woven
from tests.helper import (
    HUGE, NO, ONE, OTHER_KINDS, X, Y, YES, deep_kinds, depths_of, lists_in, number, put, some_parts, starts_of, step_on,
    steps_on, up, wait,
)

NOUGHT = number(0)
BOXES = [("x", 1), ("y", 3)]


def house(begin, hands, boxes=BOXES):
    notes = [[YES] * (len(hand) + 1) for hand in hands]
    return house_of(boxes, begin, hands, [YES] * len(hands), notes)


# The first hand opens the door, by one way or two; the second waits for it, and comes to its end behind it.
DOOR = house(
    ("is", ("plus", X, Y), NOUGHT),
    [[[put(0, 1, 1), up(1, 0)], [put(0, 0, 2)]], [[wait(0, 1, 1), (("is", X, ONE), ((1, number(3)),), 1)]]],
)


# All states, once more.

def rows_of(whole):
    rows = [((start, (0,) * len(whole[2])), None, None) for start in starts_of(whole)]
    for number_of_row in range(1001):
        if number_of_row < len(rows):
            for step, further in steps_on(whole, rows[number_of_row][0]):
                if further not in [row[0] for row in rows]:
                    rows.append((further, number_of_row, step))
    return rows


HOUSES = [house_of(*some_parts(seed)) for seed in range(80)]


class TestGone(unittest.TestCase):
    def told(self, state, step, expected, whole=DOOR):
        self.assertEqual(gone(whole, state, step), expected)

    def test_steps_that_go(self):
        self.told(((0, 0), (0, 0)), (0, 0), ((1, 0), (1, 0)))
        self.told(((0, 0), (0, 0)), (0, 1), ((0, 1), (0, 0)))
        self.told(((1, 0), (1, 0)), (0, 0), ((0, 0), (2, 0)))
        self.told(((1, 0), (1, 0)), (1, 0), ((1, 0), (1, 1)))
        self.told(((1, 0), (1, 0)), (1, 1), ((1, 3), (1, 1)))

    def test_steps_whose_guard_does_not_hold(self):
        self.told(((0, 0), (0, 0)), (1, 0), None)
        self.told(((0, 3), (2, 0)), (1, 1), None)

    def test_steps_whose_sum_the_box_cannot_hold(self):
        self.told(((0, 3), (0, 0)), (0, 1), None)
        self.told(((0, 2), (0, 0)), (0, 1), ((0, 3), (0, 0)))

    def test_states_that_no_weaving_comes_to(self):
        self.told(((1, 2), (0, 1)), (0, 1), ((1, 3), (0, 1)))

    def test_another_hand_s_place_stays(self):
        three = house(YES, [[[up(1, 1)]], [[up(1, 1)]], [[up(1, 1)]]])
        self.told(((0, 0), (0, 0, 0)), (0, 0), ((0, 1), (1, 0, 0)), three)
        self.told(((0, 0), (0, 0, 0)), (1, 0), ((0, 1), (0, 1, 0)), three)
        self.told(((0, 0), (0, 0, 0)), (2, 0), ((0, 1), (0, 0, 1)), three)
        self.told(((0, 0), (1, 0, 1)), (1, 0), ((0, 1), (1, 1, 1)), three)

    def test_back_to_the_same_place(self):
        whole = house(YES, [[[(YES, (), 0)]]])
        self.told(((1, 2), (0,)), (0, 0), ((1, 2), (0,)), whole)

    def test_at_the_end(self):
        for way in (0, 1, -1):
            self.told(((1, 0), (2, 1)), (0, way), None)
            self.told(((1, 0), (2, 1)), (1, way), None)
        self.told(((0, 0), (0,)), (0, 0), None, house(YES, [[]]))

    def test_numbers_that_are_no_hand_s(self):
        for hand in (-1, -2, -3, 2, 3, 9, HUGE, -HUGE):
            for way in (0, 1, -1, HUGE):
                self.told(((0, 0), (0, 0)), (hand, way), None)
                self.told(((1, 0), (0, 0)), (hand, way), None)

    def test_numbers_that_are_no_way_s(self):
        for way in (-1, -2, 2, 3, 4, HUGE, -HUGE):
            self.told(((1, 0), (0, 0)), (0, way), None)
            self.told(((1, 0), (0, 0)), (1, way), None)
        self.told(((1, 0), (1, 0)), (0, 1), None)
        self.told(((1, 0), (1, 0)), (0, -1), None)

    def test_a_state_is_told(self):
        told = gone(DOOR, ((0, 0), (0, 0)), (0, 0))
        self.assertEqual([type(one) for one in (told,) + told], [tuple, tuple, tuple])

    def test_as_the_document_says_it(self):
        for whole in HOUSES:
            for state, unused, unused_too in rows_of(whole):
                for hand in range(-1, 4):
                    for way in range(-2, 5):
                        expected = step_on(whole, state, (hand, way))
                        self.assertEqual(gone(whole, state, (hand, way)), expected)

    def test_what_is_handed_in_stays(self):
        kept = copy.deepcopy(DOOR)
        gone(DOOR, ((0, 0), (0, 0)), (0, 0))
        gone(DOOR, ((0, 0), (0, 0)), (7, 0))
        self.assertEqual(DOOR, kept)

    def test_the_house_of_the_call_counts(self):
        whole = copy.deepcopy(DOOR)
        told = gone(whole, ((0, 0), (0, 0)), (0, 1))
        whole[2][0][0].pop()
        self.assertEqual(told, ((0, 1), (0, 0)))
        self.assertIsNone(gone(whole, ((0, 0), (0, 0)), (0, 1)))


class TestWoven(unittest.TestCase):
    def no_start(self, start, steps=(), whole=DOOR):
        with self.assertRaises(NoStart):
            woven(whole, start, list(steps))

    def no_step(self, place, start, steps, whole=DOOR):
        with self.assertRaises(PromiseError) as caught:
            woven(whole, start, steps)
        self.assertIs(type(caught.exception), NoStep)
        self.assertEqual(caught.exception.place, place)

    def test_without_steps(self):
        self.assertEqual(woven(DOOR, (0, 0), []), [((0, 0), (0, 0))])
        three = house(YES, [[], [[up(0, 1)]], []])
        for start in stands(BOXES):
            self.assertEqual(woven(three, start, []), [(start, (0, 0, 0))])

    def test_with_some(self):
        self.assertEqual(
            woven(DOOR, (0, 0), [(0, 1), (0, 0), (1, 1), (0, 0)]),
            [((0, 0), (0, 0)), ((0, 1), (0, 0)), ((1, 1), (1, 0)), ((1, 3), (1, 1)), ((0, 3), (2, 1))],
        )

    def test_with_a_hundred_and_with_more(self):
        turn = house(YES, [[[(("is", X, NOUGHT), ((0, ONE),), 0), (YES, ((0, NOUGHT),), 0)]]])
        for count in (99, 100, 101, 150):
            steps = [(0, k % 2) for k in range(count)]
            states = woven(turn, (0, 2), steps)
            self.assertEqual(states, [((k % 2, 2), (0,)) for k in range(count + 1)])
            self.no_step(count, (0, 2), steps + [(0, 2)], turn)
        self.no_step(50, (0, 2), [(0, k % 2) for k in range(50)] + [(0, 3)] * 50, turn)

    def test_starts_that_are_no_stands(self):
        others = [(), (0,), (0, 0, 0), [0, 0], "00", {0: 0, 1: 0}, ((0, 0), (0, 0)), [(0, 0)], ((0, 0),)]
        for start in OTHER_KINDS + others + deep_kinds():
            self.no_start(start)
            self.no_start(start, [(0, 0)])
            self.no_start(start, [(9, 9)])
        for held in [thing for thing in OTHER_KINDS if isinstance(thing, bool) or thing != 0] + [0.0, "0", (0,), [0]]:
            self.no_start((held, 0))
            self.no_start((0, held))
        for start in ((2, 0), (0, 4), (-1, 0), (0, -1), (HUGE, 0), (0, -HUGE)):
            self.no_start(start)
            self.no_start(start, (), house(YES, [[]]))

    def test_starts_at_which_begin_does_not_hold(self):
        for start in stands(BOXES):
            if start != (0, 0):
                self.no_start(start)
                self.no_start(start, [(0, 0)])
                self.no_start(start, [(9, 9)])
            self.no_start(start, (), house(NO, [[]]))

    def test_a_step_that_does_not_go(self):
        self.no_step(0, (0, 0), [(1, 0)])
        self.no_step(1, (0, 0), [(0, 0), (0, 1)])
        self.no_step(2, (0, 0), [(0, 0), (1, 0), (1, 0), (0, 0)])
        self.no_step(3, (0, 0), [(0, 1), (0, 1), (0, 1), (0, 1)])

    def test_the_first_of_several_that_do_not_go(self):
        self.no_step(0, (0, 0), [(2, 0), (0, 2), (-1, 0)])
        self.no_step(1, (0, 0), [(0, 1), (0, 2), (-1, 0), (1, 0)])

    def test_numbers_that_are_none(self):
        for step in ((-1, 0), (2, 0), (0, -1), (0, 2), (HUGE, 0), (0, HUGE), (-HUGE, 0), (0, -HUGE), (1, 2)):
            self.no_step(0, (0, 0), [step])
            self.no_step(2, (0, 0), [(0, 1), (0, 0), step])

    def test_as_the_document_says_it(self):
        for whole in HOUSES:
            rows = all_states(whole)
            for at in range(len(rows)):
                start, steps = weaving_to(rows, at)
                state = (start, (0,) * len(whole[2]))
                states = [state]
                for step in steps:
                    state = step_on(whole, state, step)
                    states.append(state)
                self.assertEqual(woven(whole, start, steps), states)

    def test_what_is_handed_in_stays(self):
        kept = copy.deepcopy(DOOR)
        for steps in ([(0, 1), (0, 0)], [(0, 0), (9, 9), (0, 0)]):
            handed = list(steps)
            try:
                woven(DOOR, (0, 0), handed)
            except NoStep:
                pass
            self.assertEqual(handed, steps)
        self.assertEqual(DOOR, kept)

    def test_what_is_told_is_the_askers_own(self):
        whole = copy.deepcopy(DOOR)
        steps = [(0, 1), (0, 0)]
        expected = [((0, 0), (0, 0)), ((0, 1), (0, 0)), ((1, 1), (1, 0))]
        told = woven(whole, (0, 0), steps)
        told.reverse()
        told.append("spoiled")
        self.assertEqual(woven(whole, (0, 0), steps), expected)
        told = woven(whole, (0, 0), steps)
        steps.clear()
        whole[2].clear()
        self.assertEqual(told, expected)

    def test_what_is_refused_changes_no_later_answer(self):
        self.no_step(1, (0, 0), [(0, 1), (9, 9)])
        self.no_start((1, 1))
        self.assertEqual(woven(DOOR, (0, 0), [(0, 1)]), [((0, 0), (0, 0)), ((0, 1), (0, 0))])


class TestAllStates(unittest.TestCase):
    def test_in_their_order(self):
        whole = house(
            ("is", X, NOUGHT), [[[put(0, 1, 1), put(1, 2, 0)]], [[wait(0, 1, 1)]]], [("x", 1), ("y", 2)]
        )
        self.assertEqual(all_states(whole), [
            (((0, 0), (0, 0)), None, None),
            (((0, 1), (0, 0)), None, None),
            (((0, 2), (0, 0)), None, None),
            (((1, 0), (1, 0)), 0, (0, 0)),
            (((1, 1), (1, 0)), 1, (0, 0)),
            (((1, 2), (1, 0)), 2, (0, 0)),
            (((1, 0), (1, 1)), 3, (1, 0)),
            (((1, 1), (1, 1)), 4, (1, 0)),
            (((1, 2), (1, 1)), 5, (1, 0)),
        ])

    def test_by_hands_then_ways(self):
        whole = house(
            ("is", ("plus", X, Y), NOUGHT), [[[put(1, 3, 1), put(1, 1, 1)]], [[put(1, 2, 1), put(0, 1, 1)]]],
        )
        self.assertEqual(all_states(whole), [
            (((0, 0), (0, 0)), None, None),
            (((0, 3), (1, 0)), 0, (0, 0)),
            (((0, 1), (1, 0)), 0, (0, 1)),
            (((0, 2), (0, 1)), 0, (1, 0)),
            (((1, 0), (0, 1)), 0, (1, 1)),
            (((0, 2), (1, 1)), 1, (1, 0)),
            (((1, 3), (1, 1)), 1, (1, 1)),
            (((1, 1), (1, 1)), 2, (1, 1)),
            (((0, 3), (1, 1)), 3, (0, 0)),
            (((0, 1), (1, 1)), 3, (0, 1)),
        ])

    def test_the_first_of_several_parents_and_steps(self):
        whole = house(("is", Y, NOUGHT), [[[put(0, 1, 1), put(0, 1, 1), (YES, (), 0)]]])
        self.assertEqual(all_states(whole), [
            (((0, 0), (0,)), None, None), (((1, 0), (0,)), None, None), (((1, 0), (1,)), 0, (0, 0)),
        ])

    def test_no_start_at_all(self):
        for hands in ([[]], [[[up(0, 1)]]], [[], [[up(0, 0)]], []]):
            self.assertEqual(all_states(house(NO, hands)), [])

    def test_starts_alone(self):
        self.assertEqual(
            all_states(house(("is", X, ONE), [[], []], [("x", 1), ("y", 1)])),
            [(((1, 0), (0, 0)), None, None), (((1, 1), (0, 0)), None, None)],
        )

    def test_a_round_is_gone_once(self):
        whole = house(("is", X, Y), [[[up(0, 0), put(0, 0, 0)]]], [("x", 2), ("y", 1)])
        self.assertEqual(all_states(whole), [
            (((0, 0), (0,)), None, None), (((1, 1), (0,)), None, None), (((1, 0), (0,)), 0, (0, 0)),
            (((2, 1), (0,)), 1, (0, 0)), (((0, 1), (0,)), 1, (0, 1)), (((2, 0), (0,)), 2, (0, 0)),
        ])

    def test_just_a_thousand_states(self):
        # Each hand goes on, place by place, and round; the box takes any value.
        hand = [[put(0, k, (place + 1) % 5) for k in range(place, place + 4)] for place in range(4)]
        whole = house(YES, [hand, hand, hand], [("x", 7)])
        rows = all_states(whole)
        self.assertEqual(len({row[0] for row in rows}), len(rows))
        every = house(YES, [[[(YES, (), place + 1)] for place in range(4)] for unused in range(3)], [("x", 7)])
        self.assertEqual(len(all_states(every)), 1000)
        self.assertEqual(len(ends(every)), 8)
        self.assertEqual(stuck(every), [])

    def test_as_the_document_says_it(self):
        for whole in HOUSES:
            self.assertEqual(all_states(whole), rows_of(whole))

    def test_each_state_once_and_each_that_can_be_come_to(self):
        for whole in HOUSES:
            told = [row[0] for row in all_states(whole)]
            self.assertEqual(sorted(told), sorted(depths_of(whole)))

    def test_kinds(self):
        for state, parent, step in all_states(DOOR):
            self.assertEqual([type(one) for one in (state,) + state], [tuple, tuple, tuple])
            if parent is None:
                self.assertIsNone(step)
            else:
                self.assertEqual([type(parent), type(step), len(step)], [int, tuple, 2])
        self.assertEqual({type(row) for row in all_states(DOOR)}, {tuple})

    def test_what_is_told_is_the_askers_own(self):
        whole = copy.deepcopy(DOOR)
        told = all_states(whole)
        kept = list(told)
        told.reverse()
        told.append("spoiled")
        self.assertEqual(all_states(whole), kept)
        self.assertEqual(whole, DOOR)
        told = all_states(whole)
        for one in lists_in(whole):
            one.clear()
        self.assertEqual(told, kept)


class TestWeavingTo(unittest.TestCase):
    def test_first_some_and_last(self):
        rows = all_states(DOOR)
        numbers = {row[0]: at for at, row in enumerate(rows)}
        self.assertEqual(weaving_to(rows, 0), ((0, 0), []))
        self.assertEqual(weaving_to(rows, numbers[((0, 2), (0, 0))]), ((0, 0), [(0, 1), (0, 1)]))
        self.assertEqual(weaving_to(rows, numbers[((1, 3), (1, 1))]), ((0, 0), [(0, 0), (1, 1)]))
        self.assertEqual(weaving_to(rows, len(rows) - 1), ((0, 0), [(0, 1), (0, 1), (0, 1), (0, 0), (0, 0)]))

    def test_to_the_starts(self):
        rows = all_states(house(("less", X, Y), [[[up(0, 1)]]]))
        for at, start in enumerate([(0, 1), (0, 2), (0, 3), (1, 2), (1, 3)]):
            self.assertEqual(weaving_to(rows, at), (start, []))
        self.assertEqual(weaving_to(rows, 5), ((0, 1), [(0, 0)]))

    def test_from_another_start_than_the_first(self):
        rows = all_states(house(("is", Y, number(2)), [[[wait(0, 1, 1)], [put(1, 3, 2)]]]))
        self.assertEqual(weaving_to(rows, 2), ((1, 2), [(0, 0)]))
        self.assertEqual(weaving_to(rows, 3), ((1, 2), [(0, 0), (0, 0)]))

    def test_of_a_hundred_steps_and_more(self):
        # A hand in a round of eight rows goes up by one in the second box, and only then in the first.
        first = [[up(1, 1), (("is", Y, number(7)), ((0, ("plus", X, ONE)), (1, NOUGHT)), 1)]]
        hand = first + [[(YES, (), (place + 1) % 8)] for place in range(1, 8)]
        rows = all_states(house(("is", ("plus", X, Y), NOUGHT), [hand], [("x", 2), ("y", 7)]))
        start, steps = weaving_to(rows, len(rows) - 1)
        self.assertEqual((start, len(steps)), ((0, 0), len(rows) - 1))
        self.assertGreater(len(rows), 150)

    def test_it_goes_there_and_none_is_shorter(self):
        for whole in HOUSES:
            rows = all_states(whole)
            depths = depths_of(whole)
            for at, row in enumerate(rows):
                start, steps = weaving_to(rows, at)
                self.assertEqual(woven(whole, start, steps)[-1], row[0])
                self.assertEqual(len(steps), depths[row[0]])

    def test_kinds(self):
        rows = all_states(DOOR)
        for at in range(len(rows)):
            told = weaving_to(rows, at)
            self.assertEqual([type(told), len(told), type(told[0]), type(told[1])], [tuple, 2, tuple, list])

    def test_what_is_told_is_the_askers_own(self):
        rows = all_states(DOOR)
        kept = copy.deepcopy(rows)
        for at in range(len(rows)):
            expected = copy.deepcopy(weaving_to(rows, at))
            weaving_to(rows, at)[1].append("spoiled")
            self.assertEqual(weaving_to(rows, at), expected)
            self.assertEqual(rows, kept)
        told = weaving_to(rows, 3)
        expected = copy.deepcopy(told)
        rows.clear()
        self.assertEqual(told, expected)


class TestEndsAndStuck(unittest.TestCase):
    def test_ends(self):
        states = [row[0] for row in all_states(DOOR)]
        self.assertEqual([states[at] for at in ends(DOOR)], [((0, 0), (2, 1)), ((0, 3), (2, 1)), ((0, 1), (2, 1)),
                                                             ((0, 2), (2, 1))])

    def test_stuck(self):
        states = [row[0] for row in all_states(DOOR)]
        self.assertEqual([states[at] for at in stuck(DOOR)], [((0, 0), (2, 0)), ((0, 1), (2, 0)), ((0, 2), (2, 0)),
                                                              ((0, 3), (2, 0))])

    def test_hands_without_rows_are_at_their_ends(self):
        whole = house(("is", X, ONE), [[], [], []])
        self.assertEqual(ends(whole), [0, 1, 2, 3])
        self.assertEqual(stuck(whole), [])

    def test_one_hand_at_its_end_is_not_enough(self):
        whole = house(("is", ("plus", X, Y), NOUGHT), [[], [[wait(0, 1, 1)]]])
        self.assertEqual(ends(whole), [])
        self.assertEqual(stuck(whole), [0])
        whole = house(("is", ("plus", X, Y), NOUGHT), [[[wait(0, 1, 1)]], []])
        self.assertEqual(ends(whole), [])
        self.assertEqual(stuck(whole), [0])

    def test_a_round_is_not_stuck(self):
        whole = house(("is", X, Y), [[[(YES, (), 0)]]])
        self.assertEqual(ends(whole), [])
        self.assertEqual(stuck(whole), [])

    def test_no_start_at_all(self):
        whole = house(NO, [[], [[up(0, 1)]]])
        self.assertEqual(ends(whole), [])
        self.assertEqual(stuck(whole), [])

    def test_two_that_wait_for_one_another(self):
        whole = house(
            ("is", ("plus", X, Y), NOUGHT), [[[wait(1, 1, 1)], [put(0, 1, 2)]], [[wait(0, 1, 1)], [put(1, 1, 2)]]],
        )
        self.assertEqual((ends(whole), stuck(whole)), ([], [0]))

    def test_as_the_document_says_it(self):
        seen = []
        for whole in HOUSES:
            states = [row[0] for row in all_states(whole)]
            last = tuple(len(hand) for hand in whole[2])
            at_end = [at for at, state in enumerate(states) if state[1] == last]
            still = [at for at, state in enumerate(states) if steps_on(whole, state) == [] and at not in at_end]
            self.assertEqual((ends(whole), stuck(whole)), (at_end, still))
            seen.append((at_end != [], still != []))
        self.assertEqual(len(set(seen)), 4)

    def test_what_is_told_is_the_askers_own(self):
        whole = copy.deepcopy(DOOR)
        for told in (ends, stuck):
            kept = told(whole)
            told(whole).append("spoiled")
            self.assertEqual(told(whole), kept)
            self.assertEqual(kept, sorted(kept))
            self.assertEqual(whole, DOOR)
        kept = [list(kept) for kept in (ends(whole), stuck(whole))]
        told = [ends(whole), stuck(whole)]
        whole[2].clear()
        self.assertEqual(told, kept)


if __name__ == "__main__":
    unittest.main()
