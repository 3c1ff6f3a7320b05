import copy
import unittest

from handpromise.errors import NoHouse, PromiseError, TooMany
from handpromise.houses import house_of
from handpromise.papers import look_house
from handpromise.verdicts import broken, exchanged, judged
from handpromise.weave import all_states, weaving_to, woven
from tests.helper import (
    HUGE, NO, ONE, OTHER_KINDS, X, X_AFTER, Y, Y_AFTER, YES, breaks_in, deep_kinds, depths_of, is_the_askers_own,
    leads_to_its_break, left_leaning, lists_in, number, put, row_of_nots, some_parts, starts_of, tame_parts, task_of,
    up, wait, weakest_by_rounds,
)

NOUGHT = number(0)
BOXES = [("x", 1), ("y", 2)]
CLOSED = ("is", ("plus", X, Y), NOUGHT)
X_STAYS = ("is", X_AFTER, X)
Y_STAYS = ("is", Y_AFTER, Y)
X_RISES = ("not", ("less", X_AFTER, X))

# The first hand opens the door x; the second waits for it, and then counts y.
OPENS = [[put(0, 1, 1)]]
COUNTS = [[wait(0, 1, 1)], [up(1, 1), wait(1, 2, 2)]]
NOTES = [[YES, ("is", X, ONE)], [YES, ("is", X, ONE), ("is", ("plus", X, Y), number(3))]]
DOOR = house_of(BOXES, CLOSED, [OPENS, COUNTS], [("both", Y_STAYS, X_RISES), X_STAYS], NOTES)

EVERY = [(0, 0), (0, 1), (0, 2), (1, 0), (1, 1), (1, 2)]
OPEN = EVERY[3:]

HOUSES = [house_of(*(tame_parts(seed) if seed % 4 else some_parts(seed))) for seed in range(240)]


def one_hand(hand, notes, promise=YES, begin=CLOSED, boxes=BOXES):
    return house_of(boxes, begin, [hand], [promise], [notes])


class TestJudged(unittest.TestCase):
    def spoiled(self, whole, hand, start, road):
        self.assertEqual(judged(whole), ("spoiled", hand, start, road))

    def test_good(self):
        self.assertEqual(judged(DOOR), ("good", [[EVERY, OPEN], [EVERY, OPEN, [(1, 2)]]]))

    def test_good_of_one_two_and_three_hands(self):
        for count in (1, 2, 3):
            whole = house_of(BOXES, YES, [[]] * count, [YES] * count, [[YES]] * count)
            self.assertEqual(judged(whole), ("good", [[EVERY]] * count))

    def test_begin_that_holds_nowhere(self):
        whole = one_hand(OPENS, [NO, NO], YES, NO)
        self.assertEqual(judged(whole), ("good", [[[], []]]))
        whole = house_of(BOXES, NO, [OPENS, [], COUNTS], [NO, YES, NO], [[NO, NO], [NO], [NO, NO, NO]])
        self.assertEqual(judged(whole), ("good", [[[], []], [[]], [[], [], []]]))

    def test_spoiled_by_a_note(self):
        self.spoiled(one_hand(OPENS, [NO, YES]), 0, (0, 0), ([], ("note",)))
        self.spoiled(one_hand(OPENS, [YES, NO]), 0, (0, 0), ([("own", 0)], ("note",)))

    def test_spoiled_by_a_promise(self):
        self.spoiled(one_hand(OPENS, [YES, YES], X_STAYS), 0, (0, 0), ([], ("promise", 0)))

    def test_spoiled_by_another_one_s_promise(self):
        # The first hand no longer promises that the door stays open, though it never shuts it.
        whole = house_of(BOXES, CLOSED, [OPENS, COUNTS], [Y_STAYS, X_STAYS], NOTES)
        told = judged(whole)
        self.assertEqual(told[:3], ("spoiled", 1, (0, 0)))
        self.assertTrue(leads_to_its_break(task_of(whole, 1), 0, (0, 0), told[3]))
        self.assertEqual([step[0] for step in told[3][0]], ["other", "own", "other"])
        self.assertIsNone(broken(whole))

    def test_a_good_hand_leaves_a_later_one_spoiled(self):
        whole = house_of(BOXES, CLOSED, [OPENS, [], COUNTS], [("both", Y_STAYS, X_RISES), NO, X_STAYS],
                         [NOTES[0], [YES], [YES, NO, YES]])
        self.spoiled(whole, 2, (0, 0), ([("other", 0, (1, 0)), ("own", 0)], ("note",)))

    def test_the_first_hand(self):
        for notes, hand in (([NO, NO, NO], 0), ([NO, YES, NO], 0), ([YES, NO, NO], 1), ([YES, NO, YES], 1),
                            ([YES, YES, NO], 2)):
            whole = house_of(BOXES, CLOSED, [[], [], []], [NO] * 3, [[note] for note in notes])
            self.spoiled(whole, hand, (0, 0), ([], ("note",)))

    def test_the_first_start(self):
        for n in range(3):
            whole = one_hand([], [("less", Y, number(n))], YES, YES)
            self.spoiled(whole, 0, (0, n), ([], ("note",)))
        self.spoiled(one_hand([], [("less", Y, ONE)], YES, ("is", X, ONE)), 0, (1, 1), ([], ("note",)))

    def test_the_first_hand_ahead_of_the_first_start(self):
        whole = house_of(BOXES, YES, [[], []], [NO, NO], [[("less", Y, number(2))], [NO]])
        self.spoiled(whole, 0, (0, 2), ([], ("note",)))

    def test_spoiled_where_begin_does_not_hold(self):
        whole = one_hand([], [("is", X, NOUGHT)], YES, CLOSED)
        self.assertEqual(judged(whole), ("good", [[[(0, 0), (0, 1), (0, 2)]]]))

    def test_of_the_others_of_the_second_of_three(self):
        for does in (0, 2):
            promises = [("is", X_AFTER, ONE) if k == does else NO for k in range(3)]
            notes = [[("is", X, NOUGHT)] if k == 1 else [YES] for k in range(3)]
            whole = house_of([("x", 1)], ("is", X, NOUGHT), [[], [], []], promises, notes)
            self.spoiled(whole, 1, (0,), ([("other", does // 2, (1,))], ("note",)))

    def test_by_chance(self):
        seen = {}
        for whole in HOUSES:
            tasks = [task_of(whole, at) for at in range(len(whole[2]))]
            papers = [weakest_by_rounds(task) for task in tasks]
            starts = starts_of(whole)
            lacking = [(at, start) for at, paper in enumerate(papers) for start in starts if start not in paper[0]]
            told = judged(whole)
            if lacking:
                at, start = lacking[0]
                self.assertEqual(told[:3], ("spoiled", at, start))
                self.assertEqual(len(told), 4)
                self.assertTrue(leads_to_its_break(tasks[at], 0, start, told[3]))
            else:
                self.assertEqual(told, ("good", papers))
                self.assertIsNone(look_house(whole, told[1]))
            key = (told[0], lacking[0][0] if lacking else None)
            seen[key] = seen.get(key, 0) + 1
        for key in (("good", None), ("spoiled", 0), ("spoiled", 1), ("spoiled", 2)):
            self.assertGreater(seen[key], 4, key)

    def test_kinds(self):
        told = judged(DOOR)
        self.assertEqual([type(told), type(told[0]), type(told[1])], [tuple, str, list])
        told = judged(one_hand(OPENS, [YES, NO]))
        self.assertEqual([type(one) for one in told], [str, int, tuple, tuple])
        self.assertEqual([type(one) for one in told[3]], [list, tuple])


class TestBroken(unittest.TestCase):
    def told(self, whole, expected):
        self.assertEqual(broken(whole), expected)

    def test_none(self):
        self.told(DOOR, None)
        self.told(one_hand([], [YES]), None)
        self.told(one_hand(OPENS, [NO, NO], NO, NO), None)

    def test_a_note_at_a_start(self):
        self.told(one_hand([], [NO]), ((0, 0), [], ("note", 0)))
        self.told(one_hand([], [("less", X, ONE)], YES, YES), ((1, 0), [], ("note", 0)))
        whole = house_of(BOXES, ("is", Y, ONE), [[], [], []], [YES] * 3, [[YES], [YES], [("is", X, NOUGHT)]])
        self.told(whole, ((1, 1), [], ("note", 2)))

    def test_a_note_behind_some_steps(self):
        self.told(one_hand(OPENS, [YES, NO]), ((0, 0), [(0, 0)], ("note", 0)))
        counts = [[up(1, 0), wait(1, 2, 1)], [put(0, 1, 2)]]
        self.told(one_hand(counts, [YES, YES, NO]), ((0, 0), [(0, 0), (0, 0), (0, 1), (0, 0)], ("note", 0)))

    def test_a_note_spoiled_by_another_hand(self):
        whole = house_of(BOXES, CLOSED, [[], OPENS], [NO, YES], [[("is", X, NOUGHT)], [YES, YES]])
        self.told(whole, ((0, 0), [(1, 0)], ("note", 0)))

    def test_a_way_against_its_promise(self):
        self.told(one_hand(OPENS, [YES, YES], X_STAYS), ((0, 0), [], ("promise", 0, 0)))
        hand = [[(YES, (), 1)], [wait(0, 1, 2), (YES, ((0, X),), 1), put(1, 2, 2)]]
        self.told(one_hand(hand, [YES] * 3, Y_STAYS), ((0, 0), [(0, 0)], ("promise", 0, 2)))
        whole = house_of(BOXES, CLOSED, [[], OPENS], [YES, X_STAYS], [[YES], [YES, YES]])
        self.told(whole, ((0, 0), [], ("promise", 1, 0)))

    def test_a_promise_of_each_hand_s_own(self):
        # Each does what only the other one promises.
        whole = house_of(BOXES, CLOSED, [[[put(0, 1, 1)]], [[put(1, 1, 1)]]], [X_STAYS, Y_STAYS], [[YES, YES]] * 2)
        self.told(whole, ((0, 0), [], ("promise", 0, 0)))
        whole = house_of(BOXES, CLOSED, [[[put(0, 1, 1)]], [[put(1, 1, 1)]]], [Y_STAYS, X_STAYS], [[YES, YES]] * 2)
        self.told(whole, None)

    def test_a_way_that_changes_nothing_is_promised(self):
        self.told(one_hand([[(YES, (), 0), (YES, ((0, X), (1, Y)), 1)]], [YES, YES], NO, YES), None)

    def test_a_way_that_does_not_go_breaks_nothing(self):
        self.told(one_hand([[put(0, 7, 1), (NO, ((0, ONE),), 1)]], [YES, NO], NO), None)

    def test_notes_ahead_of_steps(self):
        whole = house_of(BOXES, CLOSED, [OPENS, []], [X_STAYS, YES], [[YES, YES], [NO]])
        self.told(whole, ((0, 0), [], ("note", 1)))

    def test_states_ahead_of_notes(self):
        # The step of the first state ahead of the second one's note; a note of the second start ahead of states behind.
        whole = house_of(BOXES, ("is", X, NOUGHT), [OPENS, []], [X_STAYS, YES], [[YES, YES], [("is", Y, NOUGHT)]])
        self.told(whole, ((0, 0), [], ("promise", 0, 0)))
        whole = house_of(BOXES, ("is", X, NOUGHT), [OPENS, []], [YES, YES], [[YES, NO], [("less", Y, number(2))]])
        self.told(whole, ((0, 2), [], ("note", 1)))

    def test_by_hands(self):
        for notes, hand in (([NO, NO, NO], 0), ([YES, NO, NO], 1), ([YES, YES, NO], 2)):
            self.told(house_of(BOXES, CLOSED, [[]] * 3, [YES] * 3, [[note] for note in notes]),
                      ((0, 0), [], ("note", hand)))
        for promises, hand in (([NO, NO, NO], 0), ([YES, NO, NO], 1), ([YES, YES, NO], 2)):
            self.told(house_of(BOXES, CLOSED, [OPENS] * 3, promises, [[YES, YES]] * 3),
                      ((0, 0), [], ("promise", hand, 0)))

    def test_by_ways(self):
        hand = [[(YES, (), 0), put(0, 1, 0), put(1, 1, 0), put(1, 2, 0)]]
        for promise, way in ((NO, 1), (Y_STAYS, 2), (("either", Y_STAYS, ("is", Y_AFTER, ONE)), 3)):
            self.told(one_hand(hand, [YES, YES], promise), ((0, 0), [], ("promise", 0, way)))

    def test_the_shortest(self):
        # By the first way the long road, by the second one the short one.
        hand = [[(YES, (), 1), (YES, (), 2)], [(YES, (), 3)], [put(0, 1, 4)], [put(0, 1, 4)]]
        self.told(one_hand(hand, [YES, YES, YES, YES, NO]), ((0, 0), [(0, 1), (0, 0)], ("note", 0)))

    def test_of_a_hundred_steps_and_more(self):
        first = [[up(1, 1), (("is", Y, number(7)), ((0, ("plus", X, ONE)), (1, NOUGHT)), 1)]]
        hand = first + [[(YES, (), (place + 1) % 8)] for place in range(1, 8)]
        boxes = [("x", 2), ("y", 7)]
        note = ("not", ("is", ("plus", X, Y), number(9)))
        start, steps, ending = broken(one_hand(hand, [note] * 9, YES, CLOSED, boxes))
        self.assertEqual((start, steps, ending), ((0, 0), steps, ("note", 0)))
        self.assertEqual(len(steps), 22 * 8 + 1)

    def test_by_chance(self):
        seen = {}
        for whole in HOUSES:
            rows = all_states(whole)
            depths = depths_of(whole)
            told = broken(whole)
            breaks = [breaks_in(whole, row[0]) for row in rows]
            first = [at for at, found in enumerate(breaks) if found][:1]
            if first:
                self.assertEqual(told, weaving_to(rows, first[0]) + (breaks[first[0]][0],))
                self.assertEqual(len(told[1]), min(depths[state] for state in depths if breaks_in(whole, state)))
                self.assertEqual(breaks_in(whole, woven(whole, told[0], told[1])[-1])[0], told[2])
            else:
                self.assertIsNone(told)
            key = (judged(whole)[0], told and told[2][0])
            seen[key] = seen.get(key, 0) + 1
        for key in (("good", None), ("spoiled", None), ("spoiled", "note"), ("spoiled", "promise")):
            self.assertGreater(seen[key], 10, key)
        # A good house is never broken.
        self.assertEqual(len(seen), 4)

    def test_kinds(self):
        told = broken(one_hand(OPENS, [YES, NO]))
        self.assertEqual([type(one) for one in (told,) + told], [tuple, tuple, list, tuple])
        self.assertEqual(type(told[1][0]), tuple)


class TestExchanged(unittest.TestCase):
    def refused(self, error, number_of_hand, hand, notes, whole=DOOR):
        with self.assertRaises(PromiseError) as caught:
            exchanged(whole, number_of_hand, hand, notes)
        self.assertIs(type(caught.exception), error)

    def test_of_fewer_rows_of_as_many_and_of_more(self):
        boxes, begin, hands, promises, notes = DOOR
        for hand in ([], [[up(0, 1)]], [[(YES, (), 1)], [put(0, 1, 2)], [(YES, (), 0)]], [[put(1, 0, 8)]] * 8):
            own = [("is", X, X)] * (len(hand) + 1)
            self.assertEqual(exchanged(DOOR, 0, hand, own), (boxes, begin, [hand, hands[1]], promises, [own, notes[1]]))
            self.assertEqual(exchanged(DOOR, 1, hand, own), (boxes, begin, [hands[0], hand], promises, [notes[0], own]))

    def test_each_of_three_hands(self):
        whole = house_of(BOXES, YES, [[], OPENS, COUNTS], [YES, NO, X_STAYS], [[YES], [YES, NO], [YES] * 3])
        for at in range(3):
            told = exchanged(whole, at, [[up(1, 1)]], [NO, YES])
            expected = copy.deepcopy(whole)
            expected[2][at] = [[up(1, 1)]]
            expected[4][at] = [NO, YES]
            self.assertEqual(told, expected)

    def test_for_itself(self):
        self.assertEqual(exchanged(DOOR, 0, OPENS, NOTES[0]), DOOR)
        self.assertEqual(exchanged(DOOR, 1, DOOR[2][1], DOOR[4][1]), DOOR)
        self.assertEqual(exchanged(exchanged(DOOR, 1, [], [YES]), 1, COUNTS, NOTES[1]), DOOR)

    def test_a_hand_that_is_none(self):
        for at in range(2):
            for hand in [thing for thing in OTHER_KINDS if thing != []] + [
                (), tuple(OPENS), OPENS[0], OPENS[0][0], [[]], OPENS * 9, [OPENS[0] * 5], [[(NO, ((2, X),), 0)]],
                [[(YES, ((0, X_AFTER),), 0)]], [[(YES, (), 2)]], [[(YES, (), HUGE)]], [[(row_of_nots(40, YES), (), 0)]],
                [[(YES, ((0, left_leaning("plus", 20, X)),), 0)]],
            ] + deep_kinds():
                self.refused(NoHouse, at, hand, [YES, YES])
                self.refused(NoHouse, at, hand, [YES])

    def test_notes_that_are_none(self):
        for at in range(2):
            for notes in OTHER_KINDS + [(), (YES, YES), YES, {0: YES, 1: YES}, "ab", iter([YES, YES])] + deep_kinds():
                self.refused(NoHouse, at, OPENS, notes)
                self.refused(NoHouse, at, [], notes)
            no_notes = [X, ("no",), X_STAYS, row_of_nots(40, YES), ("is", X, number(100))]
            for note in OTHER_KINDS + no_notes + deep_kinds():
                self.refused(NoHouse, at, OPENS, [YES, note])
                self.refused(NoHouse, at, OPENS, [note, YES])
            for notes in ([], [YES], [YES] * 3, [YES] * 1000, NOTES):
                self.refused(NoHouse, at, OPENS, notes)

    def test_the_notes_of_the_old_hand(self):
        self.refused(NoHouse, 0, COUNTS, NOTES[0])
        self.refused(NoHouse, 1, OPENS, NOTES[1])

    def test_too_many_states(self):
        stays = [[(YES, (), 0)]]
        whole = house_of([("x", 7)], YES, [stays * 4, stays * 4, stays * 4], [YES] * 3, [[YES] * 5] * 3)
        for at in range(3):
            for count in range(9):
                if count <= 4:
                    self.assertEqual(exchanged(whole, at, stays * count, [YES] * (count + 1))[2][at], stays * count)
                else:
                    self.refused(TooMany, at, stays * count, [YES] * (count + 1), whole)

    def test_too_many_states_behind_the_others(self):
        stays = [[(YES, (), 0)]]
        whole = house_of([("x", 7)], YES, [stays * 4, stays * 4, stays * 4], [YES] * 3, [[YES] * 5] * 3)
        for at in range(3):
            self.refused(NoHouse, at, stays * 8, [YES] * 8, whole)
            self.refused(NoHouse, at, stays * 8, [YES] * 8 + [X], whole)
            self.refused(NoHouse, at, stays * 7 + [[(YES, (), 9)]], [YES] * 9, whole)
            self.refused(NoHouse, at, stays * 9, [YES] * 10, whole)

    def test_what_is_refused_changes_nothing(self):
        kept = copy.deepcopy(DOOR)
        for hand, notes in ((None, [YES]), ([], None), ([], [X]), (COUNTS, NOTES[0])):
            handed = copy.deepcopy((hand, notes))
            self.refused(NoHouse, 0, *handed)
            self.assertEqual(handed, (hand, notes))
            self.assertEqual(DOOR, kept)
        self.assertEqual(exchanged(DOOR, 0, OPENS, NOTES[0]), DOOR)

    def test_kinds(self):
        told = exchanged(DOOR, 0, [], [YES])
        self.assertEqual([type(one) for one in (told,) + told], [tuple, list, tuple, list, list, list])


class TestVerdictsAreTheAskersOwn(unittest.TestCase):
    def test_judged_and_broken(self):
        for whole in (DOOR, one_hand(OPENS, [YES, NO]), one_hand(OPENS, [YES, YES], NO), one_hand([], [NO], NO, NO)):
            is_the_askers_own(self, judged, whole)
            is_the_askers_own(self, broken, whole)

    def test_exchanged(self):
        for at in range(2):
            is_the_askers_own(self, exchanged, DOOR, at, [], [YES])
            is_the_askers_own(self, exchanged, DOOR, at, OPENS, [YES, NO])

    def test_the_house_handed_in_stays(self):
        whole = copy.deepcopy(DOOR)
        told = exchanged(whole, 0, [], [NO])
        self.assertEqual(whole, DOOR)
        told[2][1][0].clear()
        told[4][1].clear()
        self.assertEqual(whole, DOOR)

    def test_a_hand_of_the_house_itself(self):
        whole = copy.deepcopy(DOOR)
        told = exchanged(whole, 0, whole[2][1], whole[4][1])
        lists = [id(one) for one in lists_in(told)]
        self.assertEqual(len(set(lists)), len(lists))
        self.assertEqual(told[2], [COUNTS, COUNTS])
        row = OPENS[0]
        told = exchanged(whole, 0, [row, row], [YES] * 3)
        told[2][0][0].clear()
        self.assertEqual(told[2][0][1], [put(0, 1, 1)])
        self.assertEqual(OPENS, [[put(0, 1, 1)]])

    def test_one_house_asked_again(self):
        whole = copy.deepcopy(DOOR)
        self.assertEqual(judged(whole)[0], "good")
        whole[4][0][1] = NO
        self.assertEqual(judged(whole)[:3], ("spoiled", 0, (0, 0)))
        self.assertEqual(broken(whole), ((0, 0), [(0, 0)], ("note", 0)))
        whole[4][0][1] = YES
        self.assertEqual((judged(whole)[0], broken(whole)), ("good", None))


if __name__ == "__main__":
    unittest.main()
