import copy
import random
import unittest

from handpromise.errors import NoHand
from handpromise.hands import behind, hand_of, reads, ways_at, writes
from handpromise.stands import stands
from tests.helper import (
    HUGE, NO, NO_CONDS, NO_SUMS, ONE, OTHER_KINDS, X, Y, YES, Z, deep_kinds, left_leaning, lists_in, number,
    row_of_nots, some_boxes, some_hand, stand_behind, without,
)

BOXES = [("x", 1), ("y", 3)]
STAY = (YES, (), 0)
FULL = (("less", X, Y), ((0, ("minus", Y, ONE)), (1, X)), 1)


class TestHandsLetBy(unittest.TestCase):
    def let_by(self, thing, boxes=BOXES):
        hand = hand_of(boxes, thing)
        self.assertEqual(hand, thing)
        self.assertIs(type(hand), list)
        for told, row in zip(hand, thing, strict=True):
            self.assertIs(type(told), list)
            for one, way in zip(told, row, strict=True):
                self.assertIs(one, way)

    def test_none_to_eight_rows(self):
        for count in range(9):
            self.let_by([[STAY] for unused in range(count)])

    def test_rows_of_one_to_four_ways(self):
        for count in range(1, 5):
            self.let_by([[STAY] * count])
            self.let_by([[STAY], [FULL] * count, [STAY]])
        self.let_by([[STAY] * 4 for unused in range(8)])

    def test_next_from_nought_to_the_end(self):
        for count in range(1, 9):
            for place in range(count + 1):
                for at in range(count):
                    hand = [[STAY] for unused in range(count)]
                    hand[at] = [STAY, (YES, (), place)]
                    self.let_by(hand)

    def test_ways_of_every_form(self):
        for guard in (YES, NO, ("is", X, Y), ("both", ("less", X, ONE), ("either", YES, ("is", Y, number(99))))):
            for puts in ((), ((0, X),), ((1, number(99)),), ((0, Y), (1, X)), ((1, ("minus", X, ("plus", Y, Y))),)):
                self.let_by([[(guard, puts, 1)]])

    def test_puts_of_all_boxes(self):
        boxes = [("a", 1), ("b", 1), ("c", 1), ("d", 2)]
        self.let_by([[(YES, tuple((k, ("box", 3 - k)) for k in range(4)), 0)]], boxes)
        self.let_by([[(YES, ((0, X), (2, X), (3, X)), 0)]], boxes)
        self.let_by([[(YES, ((3, X),), 0)]], boxes)

    def test_just_forty_parts(self):
        # A sum has an odd number of parts: thirty-nine are the most that it can have.
        many = left_leaning("plus", 19, X)
        self.let_by([[(row_of_nots(39, YES), (), 0)]])
        self.let_by([[(row_of_nots(37, ("is", X, Y)), (), 0)]])
        self.let_by([[(YES, ((0, many),), 0)]])
        self.let_by([[(YES, ((1, left_leaning("minus", 19, ONE)),), 0)]])
        self.let_by([[(row_of_nots(39, YES), ((0, many), (1, many)), 0)] * 4 for unused in range(8)])


class NoHands(unittest.TestCase):
    def refused(self, thing, boxes=BOXES):
        with self.assertRaises(NoHand):
            hand_of(boxes, thing)

    def refused_row(self, row):
        self.refused([row])
        self.refused([[STAY], row])
        self.refused([row, [STAY]])
        self.refused([[STAY]] * 7 + [row])

    def refused_way(self, way):
        self.refused_row([way])
        self.refused_row([STAY, way])
        self.refused_row([way, STAY])
        self.refused_row([STAY, STAY, STAY, way])

    def refused_put(self, put):
        self.refused_way((YES, (put,), 0))
        self.refused_way((YES, ((0, X), put), 0))
        self.refused_way((YES, (put, (1, X)), 0))


class TestNoHand(NoHands):
    def test_another_kind_of_hand(self):
        others = [(), ([STAY],), ((STAY,),), STAY, "hand", {0: [STAY]}, iter([[STAY]]), {STAY}, [STAY], [[[STAY]]]]
        for thing in without(OTHER_KINDS, []) + others + deep_kinds():
            self.refused(thing)

    def test_too_many_rows(self):
        for count in (9, 10, 1000):
            self.refused([[STAY]] * count)

    def test_another_kind_of_row(self):
        for row in OTHER_KINDS + [(), (STAY,), STAY, {STAY: 1}, {STAY}, iter([STAY]), "row", [[STAY]]] + deep_kinds():
            self.refused_row(row)

    def test_too_few_and_too_many_ways(self):
        for count in (0, 5, 6, 1000):
            self.refused_row([STAY] * count)

    def test_another_kind_of_way(self):
        others = [(), list(STAY), [STAY], "way", "abc", {0: YES, 1: (), 2: 0}, {YES, (), 0}, YES]
        for way in OTHER_KINDS + others + deep_kinds():
            self.refused_way(way)

    def test_another_count_of_things_in_a_way(self):
        for way in ((YES,), (YES, ()), (YES, 0), ((), 0), STAY + (0,), STAY + ((),), STAY + (None,), STAY * 300):
            self.refused_way(way)

    def test_things_of_a_way_in_another_order(self):
        for way in (((), YES, 0), (0, (), YES), (YES, 0, ()), ((), 0, YES), (0, YES, ())):
            self.refused_way(way)

    def test_another_kind_of_guard(self):
        for guard in OTHER_KINDS + NO_CONDS + deep_kinds():
            self.refused_way((guard, (), 0))
            self.refused_way((guard, ((0, X), (1, X)), 0))
            self.refused_way((("not", ("both", YES, guard)), (), 0))

    def test_another_kind_of_puts(self):
        for puts in OTHER_KINDS + [[(0, X)], {0: X}, {(0, X)}, iter([(0, X)]), (0, X), X, YES, "ab"] + deep_kinds():
            self.refused_way((YES, puts, 0))

    def test_another_kind_of_put(self):
        others = [(), (0,), (0, X, X), (0, X, None), [0, X], {0: X}, (X, 0), X, ((0, X),), ([0], X), "ab"]
        for put in OTHER_KINDS + others + deep_kinds():
            self.refused_put(put)

    def test_a_put_s_box_that_is_none(self):
        others = [-2, 2, 3, 99, -HUGE, "0", "x", 0.0, 1.0, (0,), [0], X]
        for box in without(OTHER_KINDS, 0) + others + deep_kinds():
            self.refused_put((box, ONE))

    def test_a_put_s_sum_that_is_none(self):
        for one in OTHER_KINDS + NO_SUMS + deep_kinds():
            for box in (0, 1):
                self.refused_way((YES, ((box, one),), 0))
            self.refused_way((YES, ((0, X), (1, one)), 0))
            self.refused_way((YES, ((0, one), (1, X)), 0))
            self.refused_way((YES, ((0, ("plus", X, ("minus", Y, one))),), 0))

    def test_boxes_twice_or_falling(self):
        boxes = [("a", 1), ("b", 1), ("c", 1), ("d", 2)]
        for put in ((0, 0), (1, 1), (1, 0), (0, 1, 1), (0, 0, 1), (0, 2, 1), (1, 2, 0), (2, 3, 2), (3, 2, 1, 0)):
            self.refused([[(YES, tuple((box, X) for box in put), 0)]], boxes)
        self.refused([[(YES, ((0, X),) * 1000, 0)]], boxes)

    def test_a_next_that_is_none(self):
        others = [-2, 9, 99, -HUGE, "0", "", 0.0, 1.0, (0,), [0], (), YES, STAY]
        for place in without(OTHER_KINDS, 0) + others + deep_kinds():
            self.refused_way((YES, (), place))

    def test_a_next_beyond_the_end(self):
        for count in range(1, 9):
            for at in range(count):
                for place in (count + 1, count + 2, HUGE, -1, -count, -HUGE):
                    hand = [[STAY] for unused in range(count)]
                    hand[at] = [STAY, (YES, (), place)]
                    self.refused(hand)

    def test_more_than_forty_parts(self):
        for count in (40, 41, 98):
            self.refused_way((row_of_nots(count, YES), (), 0))
            self.refused_way((row_of_nots(count, None), (), 0))
        for word in ("plus", "minus"):
            for count in (20, 21, 98):
                self.refused_put((1, left_leaning(word, count, X)))
                self.refused_put((0, left_leaning(word, count, X)))
        self.refused_way((row_of_nots(38, ("is", X, Y)), (), 0))
        self.refused_way((("is", X, left_leaning("plus", 19, X)), (), 0))

    def test_of_other_boxes(self):
        self.refused([[(YES, ((1, X),), 0)]], [("x", 7)])
        self.refused([[(YES, ((0, Y),), 0)]], [("x", 7)])
        self.refused([[(("is", X, Y), (), 0)]], [("x", 7)])
        self.assertEqual(hand_of([("x", 7)], [[(("is", X, X), ((0, X),), 0)]]), [[(("is", X, X), ((0, X),), 0)]])

    def test_one_spoiled_thing_anywhere(self):
        full = [[FULL, STAY, FULL, FULL] for unused in range(8)]
        self.assertEqual(hand_of(BOXES, full), full)
        for at in range(8):
            for way in range(4):
                for spoiled in ((NO, ((0, Z),), 0), (("no",), (), 0), (YES, (), 9), (YES, None, 0), None):
                    hand = copy.deepcopy(full)
                    hand[at][way] = spoiled
                    self.refused(hand)


class TestHandsAreTheAskersOwn(NoHands):
    def test_what_is_handed_in_stays(self):
        boxes = list(BOXES)
        for thing in ([[FULL, STAY], [STAY]], [[STAY], [(YES, [], 0)]], [[STAY], [STAY, ["no", "way"], STAY]], [[]]):
            kept = copy.deepcopy(thing)
            try:
                hand_of(boxes, thing)
            except NoHand:
                pass
            self.assertEqual(thing, kept)
        self.assertEqual(boxes, BOXES)

    def test_no_list_handed_in_is_told(self):
        thing = [[FULL, STAY], [STAY]]
        handed = [id(one) for one in lists_in(thing)]
        for told in lists_in(hand_of(BOXES, thing)):
            self.assertNotIn(id(told), handed)

    def test_what_is_told_stays_when_what_was_handed_in_is_changed(self):
        thing = [[FULL, STAY], [STAY]]
        kept = copy.deepcopy(thing)
        hand = hand_of(BOXES, thing)
        thing[0].pop()
        thing[1].append(FULL)
        thing.append([STAY])
        self.assertEqual(hand, kept)

    def test_what_is_told_can_be_changed(self):
        thing = [[FULL, STAY], [STAY]]
        kept = copy.deepcopy(thing)
        hand = hand_of(BOXES, thing)
        hand[0].clear()
        hand[1].append(None)
        hand.pop()
        self.assertEqual(thing, kept)
        self.assertEqual(hand_of(BOXES, thing), kept)

    def test_no_two_lists_are_one(self):
        row = [STAY]
        hand = hand_of(BOXES, [row, row, row])
        hand[0].append(FULL)
        self.assertEqual(hand, [[STAY, FULL], [STAY], [STAY]])
        self.assertEqual(row, [STAY])

    def test_an_empty_one_is_new_each_time(self):
        thing = []
        hand = hand_of(BOXES, thing)
        hand.append([STAY])
        self.assertEqual(thing, [])
        self.assertEqual(hand_of(BOXES, []), [])

    def test_what_is_refused_changes_no_later_answer(self):
        self.refused([[(YES, ((2, X),), 0)]])
        self.assertEqual(hand_of(BOXES, [[STAY]]), [[STAY]])


class TestBehind(unittest.TestCase):
    def told(self, way, stand, expected, boxes=BOXES):
        self.assertEqual(behind(boxes, way, stand), expected)

    def test_a_guard_that_holds_and_that_does_not(self):
        self.told((YES, ((1, ONE),), 0), (0, 3), (0, 1))
        self.told((NO, ((1, ONE),), 0), (0, 3), None)
        self.told((("less", X, Y), ((1, ONE),), 0), (0, 3), (0, 1))
        self.told((("less", X, Y), ((1, ONE),), 0), (0, 0), None)

    def test_without_puts(self):
        for stand in stands(BOXES):
            self.told((YES, (), 0), stand, stand)
            self.told((NO, (), 0), stand, None)

    def test_the_same_stand_behind(self):
        self.told((YES, ((0, X), (1, Y)), 0), (1, 2), (1, 2))

    def test_a_sum_below_nought(self):
        down = (YES, ((1, ("minus", Y, ONE)),), 0)
        self.told(down, (1, 2), (1, 1))
        self.told(down, (1, 1), (1, 0))
        self.told(down, (1, 0), None)
        self.told((YES, ((1, ("minus", X, number(99))),), 0), (1, 0), None)

    def test_a_sum_above_the_top(self):
        up = (YES, ((1, ("plus", Y, ONE)),), 0)
        self.told(up, (1, 2), (1, 3))
        self.told(up, (1, 3), None)
        self.told((YES, ((0, ONE),), 0), (0, 3), (1, 3))
        self.told((YES, ((0, number(2)),), 0), (0, 3), None)
        self.told((YES, ((1, number(3)),), 0), (0, 0), (0, 3))
        self.told((YES, ((1, number(99)),), 0), (0, 0), None)

    def test_below_nought_on_the_way_alone(self):
        self.told((YES, ((1, ("plus", ("minus", X, number(9)), number(10))),), 0), (1, 0), (1, 2))

    def test_each_box_has_its_own_top(self):
        self.told((YES, ((0, Y),), 0), (0, 1), (1, 1))
        self.told((YES, ((0, Y),), 0), (0, 2), None)
        self.told((YES, ((1, number(2)),), 0), (0, 0), (0, 2))

    def test_one_of_several_puts_cannot_be(self):
        self.told((YES, ((0, number(2)), (1, ONE)), 0), (0, 0), None)
        self.told((YES, ((0, ONE), (1, number(4))), 0), (0, 0), None)
        self.told((YES, ((0, ONE), (1, number(3))), 0), (0, 0), (1, 3))

    def test_all_at_once(self):
        self.told((YES, ((0, Y), (1, X)), 0), (1, 0), (0, 1))
        self.told((YES, ((0, Y), (1, X)), 0), (0, 1), (1, 0))
        boxes = [("a", 2), ("b", 2), ("c", 1)]
        turn = (YES, ((0, Y), (1, X), (2, ("minus", Y, X))), 0)
        self.told(turn, (1, 2, 0), (2, 1, 1), boxes)
        self.told(turn, (2, 2, 1), (2, 2, 0), boxes)
        self.told(turn, (0, 2, 0), None, boxes)

    def test_a_guard_sees_the_stand_ahead(self):
        self.told((("is", X, number(0)), ((0, ONE),), 0), (0, 1), (1, 1))
        self.told((("is", X, ONE), ((0, ONE),), 0), (0, 1), None)

    def test_the_next_does_not_matter(self):
        for place in range(9):
            self.told((YES, ((0, ONE),), place), (0, 1), (1, 1))

    def test_a_stand_is_told(self):
        told = behind(BOXES, (YES, ((1, X),), 0), (1, 0))
        self.assertIs(type(told), tuple)
        self.assertEqual([type(held) for held in told], [int, int])

    def test_as_python_says_it(self):
        chance = random.Random(3)
        for unused in range(120):
            boxes = some_boxes(chance)
            for row in some_hand(chance, boxes, 3):
                for way in row:
                    for stand in stands(boxes):
                        self.told(way, stand, stand_behind(boxes, way, stand), boxes)

    def test_what_is_handed_in_stays(self):
        boxes = list(BOXES)
        stand = (1, 0)
        behind(boxes, (YES, ((0, Y), (1, X)), 0), stand)
        self.assertEqual((boxes, stand), (BOXES, (1, 0)))


class TestWaysAt(unittest.TestCase):
    def setUp(self):
        self.hand = [
            [(("is", X, ONE), (), 0), (YES, ((1, ("plus", Y, ONE)),), 1), (NO, (), 2), (("less", Y, ONE), (), 2)],
            [(YES, ((1, ("minus", Y, ONE)),), 0)],
        ]

    def told(self, place, stand, expected):
        self.assertEqual(ways_at(BOXES, self.hand, place, stand), expected)

    def test_at_each_place(self):
        self.told(0, (0, 0), [1, 3])
        self.told(0, (1, 0), [0, 1, 3])
        self.told(0, (0, 2), [1])
        self.told(0, (0, 3), [])
        self.told(0, (1, 3), [0])
        self.told(1, (0, 0), [])
        self.told(1, (0, 1), [0])

    def test_at_the_end(self):
        for stand in stands(BOXES):
            self.told(2, stand, [])
            self.assertEqual(ways_at(BOXES, [], 0, stand), [])

    def test_at_no_place(self):
        for place in (-1, -2, 3, 9, HUGE, -HUGE):
            self.told(place, (1, 1), [])
            self.assertEqual(ways_at(BOXES, [[STAY]], place, (1, 1)), [])

    def test_all_ways(self):
        self.assertEqual(ways_at(BOXES, [[STAY] * 4], 0, (0, 0)), [0, 1, 2, 3])

    def test_as_python_says_it(self):
        chance = random.Random(4)
        for unused in range(60):
            boxes = some_boxes(chance)
            hand = some_hand(chance, boxes, 3)
            for stand in stands(boxes):
                for place, row in enumerate(hand + [[]]):
                    going = [k for k in range(len(row)) if stand_behind(boxes, row[k], stand) is not None]
                    self.assertEqual(ways_at(boxes, hand, place, stand), going)

    def test_what_is_told_is_the_askers_own(self):
        kept = copy.deepcopy(self.hand)
        for place, stand, expected in ((0, (1, 0), [0, 1, 3]), (2, (1, 0), []), (1, (0, 0), []), (9, (0, 0), [])):
            told = ways_at(BOXES, self.hand, place, stand)
            told.append("spoiled")
            self.told(place, stand, expected)
            self.assertEqual(self.hand, kept)

    def test_what_is_told_stays_when_the_hand_is_changed(self):
        told = ways_at(BOXES, self.hand, 0, (1, 0))
        self.hand[0].reverse()
        self.assertEqual(told, [0, 1, 3])
        self.told(0, (1, 0), [0, 2, 3])


class TestReadsAndWrites(unittest.TestCase):
    def told(self, way, read, written):
        self.assertEqual(reads(way), read)
        self.assertEqual(writes(way), written)

    def test_of_nothing(self):
        self.told((YES, (), 0), [], [])
        self.told((("is", ONE, number(2)), (), 3), [], [])

    def test_of_guards(self):
        self.told((("is", X, ONE), (), 0), [0], [])
        self.told((("either", ("less", ("box", 3), Y), ("not", ("is", Y, X))), (), 0), [0, 1, 3], [])

    def test_of_sums(self):
        self.told((YES, ((0, Y),), 0), [1], [0])
        self.told((YES, ((0, ("plus", ("box", 3), ("minus", Z, ("box", 3)))),), 0), [2, 3], [0])
        self.told((YES, ((1, ("box", 3)), (2, Z), (4, X)), 0), [0, 2, 3], [1, 2, 4])

    def test_of_both(self):
        self.told((("is", ("box", 4), Y), ((0, Z), (1, ("plus", Y, X))), 0), [0, 1, 2, 4], [0, 1])

    def test_what_is_written_is_not_read_for_it(self):
        self.told((YES, ((0, ONE), (3, number(2))), 0), [], [0, 3])

    def test_the_next_is_no_box(self):
        self.told((YES, (), 4), [], [])

    def test_rising_each_once(self):
        way = (("both", ("is", ("box", 4), Z), ("is", Z, ("box", 4))), ((0, ("box", 4)), (1, X), (2, X), (3, Y)), 1)
        self.told(way, [0, 1, 2, 4], [0, 1, 2, 3])

    def test_what_is_told_is_the_askers_own(self):
        way = (("is", X, Y), ((0, Y), (1, X)), 0)
        for told in (reads(way), writes(way)):
            told.append(7)
            told.reverse()
        self.told(way, [0, 1], [0, 1])
        self.assertEqual(way, (("is", X, Y), ((0, Y), (1, X)), 0))


if __name__ == "__main__":
    unittest.main()
