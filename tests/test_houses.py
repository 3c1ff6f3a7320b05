import copy
import itertools
import unittest

from handpromise.errors import NoBoxes, NoHouse, PromiseError, TooMany
from handpromise.houses import house_of
from tests.helper import (
    HUGE, ONE, OTHER_KINDS, X, X_AFTER, Y, Y_AFTER, YES, deep_kinds, left_leaning, lists_in, number, row_of_nots,
    some_parts,
)

STAY = (YES, (), 0)
UP = (("less", X, Y), ((0, ("plus", X, ONE)),), 1)
BOXES = [("x", 1), ("y", 2)]
BEGIN = ("is", X, number(0))
HANDS = [[[UP, STAY], [STAY]], [], [[(YES, ((1, X),), 1)]]]
PROMISES = [("less", X, X_AFTER), ("is", X, Y), ("is", Y_AFTER, X)]
NOTES = [[YES, ("less", X, Y), BEGIN], [YES], [("is", X, Y), YES]]
PARTS = (BOXES, BEGIN, HANDS, PROMISES, NOTES)

NO_PLAIN = [
    (), ONE, X, ["yes"], ("Yes",), ("yes", YES), ("is", X), ("nor", YES, YES), ("both", YES, X), ("is", X, YES),
    ("is", ("box", 2), X), ("is", ("box", -1), X), ("less", X, number(100)), ("less", number(True), X),
    row_of_nots(40, YES), row_of_nots(98, YES), row_of_nots(40, None), ("is", X, left_leaning("plus", 19, X)),
]
WITH_AFTER = [("is", X_AFTER, X), ("not", ("less", X, ("plus", Y_AFTER, ONE)))]
NO_HANDS_THING = [
    (), ([STAY],), STAY, [STAY], [[]], [[STAY] * 5], [[STAY]] * 9, [[list(STAY)]], [[(("no",), (), 0)]],
    [[(YES, [], 0)]], [[(YES, ((2, X),), 0)]], [[(YES, ((1, X), (0, X)), 0)]], [[(YES, ((0, X_AFTER),), 0)]],
    [[(YES, (), 2)]], [[(YES, (), True)]], [[(row_of_nots(40, YES), (), 0)]],
    [[(YES, ((0, left_leaning("plus", 20, X)),), 0)]],
]


def parts():
    return list(copy.deepcopy(PARTS))


def with_hands(rows, boxes):
    # A house whose hands have as many rows as told.
    hands = [[[STAY] for unused in range(count)] for count in rows]
    return [boxes, YES, hands, [YES for hand in hands], [[YES] * (len(hand) + 1) for hand in hands]]


class Houses(unittest.TestCase):
    def refused(self, error, things):
        with self.assertRaises(PromiseError) as caught:
            house_of(*things)
        self.assertIs(type(caught.exception), error)

    def let_by(self, things):
        house = house_of(*things)
        self.assertIs(type(house), tuple)
        self.assertEqual(house, tuple(things))

    def no_house(self, at, thing):
        things = parts()
        things[at] = thing
        self.refused(NoHouse, things)


class TestLetBy(Houses):
    def test_a_house_as_it_is(self):
        self.let_by(parts())
        house = house_of(*parts())
        self.assertEqual([type(thing) for thing in house], [list, tuple, list, list, list])
        self.assertEqual([type(notes) for notes in house[4]], [list, list, list])
        self.assertEqual([type(hand) for hand in house[2]], [list, list, list])
        self.assertIs(house[2][0][0][0], UP)

    def test_one_to_three_hands(self):
        for count in range(1, 4):
            self.let_by(with_hands([1] * count, BOXES))
            self.let_by(with_hands([0] * count, BOXES))

    def test_hands_of_none_to_eight_rows(self):
        for count in range(9):
            self.let_by(with_hands([count], BOXES))
            self.let_by(with_hands([count, 0, 1], BOXES))

    def test_promises_with_after_and_without(self):
        for promise in [YES, BEGIN] + WITH_AFTER:
            things = parts()
            things[3] = [promise, promise, promise]
            self.let_by(things)

    def test_a_begin_that_holds_nowhere(self):
        things = parts()
        things[1] = ("not", YES)
        self.let_by(things)

    def test_just_forty_parts(self):
        forty = row_of_nots(39, YES)
        things = [BOXES, forty, [[[(forty, ((0, left_leaning("plus", 19, X)),), 1)]]], [forty], [[forty, forty]]]
        self.let_by(things)

    def test_houses_by_chance(self):
        for seed in range(60):
            self.let_by(some_parts(seed))


class TestNoBoxes(Houses):
    def test_what_is_no_boxes(self):
        for boxes in OTHER_KINDS + [(), (("x", 1),), [["x", 1]], [("x", 8)], [("x", 0)], [("x", True)], [("X", 1)],
                                    [("x", 1), ("x", 1)], [("x", 1, 1)]] + deep_kinds():
            things = parts()
            things[0] = boxes
            self.refused(NoBoxes, things)

    def test_too_many_stands(self):
        for tops in ((4, 4), (7, 3), (2, 2, 2), (1, 1, 1, 1, 1)):
            things = parts()
            things[0] = [("abcde"[k], top) for k, top in enumerate(tops)]
            self.refused(TooMany, things)


class TestNoHouse(Houses):
    def test_begin(self):
        for begin in OTHER_KINDS + NO_PLAIN + WITH_AFTER + deep_kinds():
            self.no_house(1, begin)

    def test_another_kind_of_hands(self):
        for hands in OTHER_KINDS + [tuple(HANDS), HANDS[0], {0: []}, iter([[]]), "hand"] + deep_kinds():
            self.no_house(2, hands)
            self.refused(NoHouse, [BOXES, YES, hands, [], []])
            self.refused(NoHouse, [BOXES, YES, hands, [YES], [[YES]]])

    def test_too_few_and_too_many_hands(self):
        for count in (0, 4, 5):
            self.refused(NoHouse, with_hands([0] * count, BOXES))
        self.refused(NoHouse, [BOXES, YES, [[]] * 1000, [YES] * 1000, [[YES]] * 1000])

    def test_a_hand_that_is_none(self):
        for hand in [thing for thing in OTHER_KINDS if thing != []] + NO_HANDS_THING + deep_kinds():
            count = len(hand) + 1 if isinstance(hand, list) else 1
            for at in range(3):
                things = with_hands([0, 0, 0], BOXES)
                things[2][at] = hand
                things[4][at] = [YES] * count
                self.refused(NoHouse, things)
            self.refused(NoHouse, [BOXES, YES, [hand], [YES], [[YES] * count]])

    def test_another_kind_of_promises(self):
        for promises in OTHER_KINDS + [tuple(PROMISES), YES, {0: YES}, iter(PROMISES), "abc"] + deep_kinds():
            self.no_house(3, promises)
            self.refused(NoHouse, [BOXES, YES, [[]], promises, [[YES]]])

    def test_too_few_and_too_many_promises(self):
        for count in (0, 1, 2, 4, 1000):
            self.no_house(3, [YES] * count)
        for count in (0, 2):
            self.refused(NoHouse, [BOXES, YES, [[]], [YES] * count, [[YES]]])

    def test_a_promise_that_is_none(self):
        for promise in OTHER_KINDS + NO_PLAIN + [("is", ("after", 2), X), ("after", 0)] + deep_kinds():
            for at in range(3):
                promises = list(PROMISES)
                promises[at] = promise
                self.no_house(3, promises)

    def test_another_kind_of_notes(self):
        for notes in OTHER_KINDS + [tuple(NOTES), YES, [YES] * 3, {0: YES}, iter(NOTES), "abc"] + deep_kinds():
            self.no_house(4, notes)
            self.refused(NoHouse, [BOXES, YES, [[]], [YES], notes])

    def test_too_few_and_too_many_lists_of_notes(self):
        for notes in ([], NOTES[:1], NOTES[:2], NOTES + [[YES]], NOTES + [[]], [[YES]] * 1000):
            self.no_house(4, notes)

    def test_another_kind_of_a_hand_s_notes(self):
        for at in range(3):
            for own in OTHER_KINDS + [tuple(NOTES[at]), YES, {YES: 1}, iter(NOTES[at]), "abc"] + deep_kinds():
                notes = copy.deepcopy(NOTES)
                notes[at] = own
                self.no_house(4, notes)

    def test_too_few_and_too_many_notes(self):
        for at in range(3):
            for own in ([], NOTES[at][:-1], NOTES[at] + [YES], [YES] * 1000):
                notes = copy.deepcopy(NOTES)
                notes[at] = own
                self.no_house(4, notes)

    def test_notes_of_the_hands_in_another_order(self):
        self.no_house(4, [NOTES[1], NOTES[0], NOTES[2]])
        self.no_house(4, [NOTES[2], NOTES[1], NOTES[0]])

    def test_a_note_that_is_none(self):
        for note in OTHER_KINDS + NO_PLAIN + WITH_AFTER + deep_kinds():
            for at in range(3):
                for place in range(len(NOTES[at])):
                    notes = copy.deepcopy(NOTES)
                    notes[at][place] = note
                    self.no_house(4, notes)

    def test_of_other_boxes(self):
        things = parts()
        things[0] = [("x", 1)]
        self.refused(NoHouse, things)

    def test_rows_are_no_hand_for_a_house_either(self):
        self.no_house(2, [HANDS[0][0], [], []])


class TestTooManyStates(Houses):
    def test_just_a_thousand(self):
        self.let_by(with_hands([4, 4, 4], [("x", 7)]))
        self.let_by(with_hands([4, 1, 4], [("x", 3), ("y", 4)]))
        self.let_by(with_hands([7, 4, 4], [("x", 4)]))

    def test_just_less(self):
        self.let_by(with_hands([8, 8, 5], [("x", 1)]))
        self.let_by(with_hands([8, 3, 0], [("x", 3), ("y", 5)]))
        self.let_by(with_hands([8], [("x", 3), ("y", 5)]))

    def test_a_few_more(self):
        # With so few places of each hand, a thousand and eight is the least number above a thousand.
        self.refused(TooMany, with_hands([6, 5], [("x", 3), ("y", 5)]))
        self.refused(TooMany, with_hands([8, 6, 1], [("x", 7)]))
        self.refused(TooMany, with_hands([8, 8, 8], [("x", 1)]))
        self.refused(TooMany, with_hands([8, 8, 8], [("x", 3), ("y", 5)]))
        self.refused(TooMany, with_hands([4, 4, 5], [("x", 7)]))

    def test_places_not_rows_are_counted(self):
        self.let_by(with_hands([3, 3, 4], [("x", 7)]))
        self.refused(TooMany, with_hands([6, 4, 3], [("x", 7)]))

    def test_every_count_of_rows(self):
        boxes = [("x", 1), ("y", 2)]
        for rows in itertools.combinations_with_replacement(range(9), 3):
            states = 6 * (rows[0] + 1) * (rows[1] + 1) * (rows[2] + 1)
            things = with_hands(rows, boxes)
            if states > 1000:
                self.refused(TooMany, things)
            else:
                self.let_by(things)

    def test_the_states_that_are_come_to_do_not_count(self):
        things = with_hands([8, 8, 8], [("x", 1)])
        things[1] = ("not", YES)
        self.refused(TooMany, things)


class TestOrderOfRefusals(Houses):
    # The number of the part, what stands in its place, and the refusal.
    SPOILED = (
        (0, [("x", 8)], NoBoxes), (0, None, NoBoxes), (0, [("a", 7), ("b", 7)], TooMany), (1, None, NoHouse),
        (1, row_of_nots(40, YES), NoHouse), (1, X, NoHouse), (2, [], NoHouse), (2, [[], [], [[]]], NoHouse),
        (3, [YES], NoHouse), (3, [YES, YES, X], NoHouse), (4, [], NoHouse), (4, [[YES], [YES], [YES]], NoHouse),
        (4, [[YES, YES, WITH_AFTER[0]], [YES], [YES, YES]], NoHouse),
    )

    def test_one_part_spoiled(self):
        for at, thing, error in self.SPOILED:
            things = parts()
            things[at] = thing
            self.refused(error, things)

    def test_two_parts_spoiled(self):
        for one, other in itertools.permutations(self.SPOILED, 2):
            if one[0] != other[0]:
                things = parts()
                things[one[0]] = one[1]
                things[other[0]] = other[1]
                first = one if one[0] < other[0] else other
                self.refused(first[2], things)

    def test_all_parts_spoiled(self):
        self.refused(NoBoxes, [None, None, None, None, None])
        self.refused(TooMany, [[("a", 7), ("b", 7)], None, None, None, None])
        self.refused(NoHouse, [BOXES, None, None, None, None])
        self.refused(NoHouse, [BOXES, YES, None, None, None])

    def test_too_many_states_and_a_part_spoiled(self):
        for at, thing, error in self.SPOILED:
            things = with_hands([8, 8, 8], BOXES)
            if at != 2:
                things[at] = thing
                self.refused(error, things)
        for at in range(3):
            things = with_hands([8, 8, 8], BOXES)
            things[2][at][7][0] = (YES, (), 9)
            self.refused(NoHouse, things)
            things = with_hands([8, 8, 8], BOXES)
            things[4][at][8] = None
            self.refused(NoHouse, things)
            things = with_hands([8, 8, 8], BOXES)
            things[4][at].pop()
            self.refused(NoHouse, things)
            things = with_hands([8, 8, 8], BOXES)
            things[3][at] = row_of_nots(40, YES)
            self.refused(NoHouse, things)

    def test_four_hands_ahead_of_too_many_states(self):
        self.refused(NoHouse, with_hands([8, 8, 8, 8], BOXES))

    def test_no_boxes_within_boxes_of_too_many_stands(self):
        things = with_hands([8, 8, 8], [("a", 7), ("b", 7), ("c", 8)])
        self.refused(NoBoxes, things)


class TestHousesAreTheAskersOwn(Houses):
    def test_what_is_handed_in_stays(self):
        things = parts()
        house_of(*things)
        self.assertEqual(tuple(things), PARTS)
        for at, thing, error in TestOrderOfRefusals.SPOILED:
            things = parts()
            things[at] = copy.deepcopy(thing)
            kept = copy.deepcopy(things)
            self.refused(error, things)
            self.assertEqual(things, kept)

    def test_no_list_handed_in_is_told(self):
        things = parts()
        handed = [id(one) for one in lists_in(things)]
        for told in lists_in(house_of(*things)):
            self.assertNotIn(id(told), handed)

    def test_lists_changed_behind_the_call(self):
        things = parts()
        house = house_of(*things)
        for one in lists_in(things):
            one.clear()
        self.assertEqual(house, PARTS)
        things = parts()
        house = house_of(*things)
        for one in lists_in(things):
            one.append("spoiled")
        self.assertEqual(house, PARTS)

    def test_what_is_told_can_be_changed(self):
        things = parts()
        for one in lists_in(house_of(*things)):
            one.append("spoiled")
        self.assertEqual(tuple(things), PARTS)
        self.assertEqual(house_of(*things), PARTS)

    def test_no_two_lists_are_one(self):
        row = [STAY]
        hand = [row, row]
        notes = [YES, YES, YES]
        house = house_of(BOXES, YES, [hand, hand, hand], [YES, YES, YES], [notes, notes, notes])
        told = lists_in(house)
        self.assertEqual(len(told), 1 + 1 + 3 * 3 + 1 + 1 + 3)
        self.assertEqual(len({id(one) for one in told}), len(told))

    def test_one_list_in_two_parts(self):
        # One list is both the promises and a hand's notes.
        conds = [YES, YES]
        house = house_of(BOXES, YES, [[[STAY]], [[STAY]]], conds, [conds, conds])
        house[3].append("spoiled")
        self.assertEqual(house[4], [[YES, YES], [YES, YES]])
        self.assertEqual(conds, [YES, YES])

    def test_what_is_refused_changes_no_later_answer(self):
        self.refused(NoHouse, [BOXES, None, HANDS, PROMISES, NOTES])
        self.let_by(parts())

    def test_great_numbers(self):
        self.no_house(1, ("is", X, number(HUGE)))
        self.no_house(2, [[[(YES, (), HUGE)]], [], []])


if __name__ == "__main__":
    unittest.main()
