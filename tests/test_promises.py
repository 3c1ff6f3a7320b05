import copy
import random
import unittest

from handpromise.conds import steps_of
from handpromise.promises import both, joined, own_steps, within
from handpromise.stands import stands
from tests.helper import (
    HUGE, NO, ONE, X, X_AFTER, Y, Y_AFTER, YES, number, some_boxes, some_hand, stand_behind,
)

BOXES = [("x", 1), ("y", 2)]
A = ((0,), (1,))
B = ((0,), (2,))
C = ((1,), (0,))
D = ((2,), (1,))
EVERY = steps_of([("x", 3), ("y", 5)], YES)


def some_steps(chance):
    return sorted(chance.sample(EVERY, chance.choice([0, 1, 5, 100, 551, 552])))


class TestWithin(unittest.TestCase):
    def test_within(self):
        for one, other in (([], []), ([], [A]), ([A], [A]), ([B], [A, B, C]), ([A, C], [A, B, C]), ([A, B], [A, B])):
            self.assertIsNone(within(one, other))

    def test_the_first_step_lacking(self):
        for one, other, lacking in (
            ([A], [], A), ([A, B], [A], B), ([A, B, C], [A, C], B), ([A, B, C, D], [A, D], B), ([B, C], [D], B),
            ([A, C, D], [B, C], A), ([D], [A, B, C], D), ([A, B], [C, D], A),
        ):
            self.assertEqual(within(one, other), lacking)

    def test_a_step_back_is_another_one(self):
        self.assertEqual(within([((0,), (1,))], [((1,), (0,))]), ((0,), (1,)))

    def test_of_promises(self):
        boxes = [("x", 3)]
        by_one = steps_of(boxes, ("is", X_AFTER, ("plus", X, ONE)))
        rising = steps_of(boxes, ("less", X, X_AFTER))
        self.assertIsNone(within(by_one, rising))
        self.assertEqual(within(rising, by_one), ((0,), (2,)))

    def test_as_told_one_by_one(self):
        chance = random.Random(5)
        for unused in range(100):
            one, other = some_steps(chance), some_steps(chance)
            lacking = [step for step in one if step not in other]
            self.assertEqual(within(one, other), lacking[0] if lacking else None)

    def test_a_tuple_of_two_stands_is_told(self):
        told = within([A], [])
        self.assertEqual([type(one) for one in (told,) + told], [tuple, tuple, tuple])


class TestJoinedAndBoth(unittest.TestCase):
    def told(self, one, other, in_one_or_both, in_each):
        self.assertEqual(joined(one, other), in_one_or_both)
        self.assertEqual(joined(other, one), in_one_or_both)
        self.assertEqual(both(one, other), in_each)
        self.assertEqual(both(other, one), in_each)

    def test_of_empty_lists(self):
        self.told([], [], [], [])
        self.told([A, C], [], [A, C], [])

    def test_of_others(self):
        self.told([A], [A], [A], [A])
        self.told([A], [B], [A, B], [])
        self.told([B, D], [A, C], [A, B, C, D], [])
        self.told([A, B, C], [B, C, D], [A, B, C, D], [B, C])
        self.told([A, D], [A, B, C, D], [A, B, C, D], [A, D])

    def test_as_told_one_by_one(self):
        chance = random.Random(6)
        for unused in range(100):
            one, other = some_steps(chance), some_steps(chance)
            in_each = [step for step in EVERY if step in one and step in other]
            self.told(one, other, [step for step in EVERY if step in one or step in other], in_each)

    def test_of_promises(self):
        boxes = [("x", 2), ("y", 1)]
        rises, stays = ("less", X, X_AFTER), ("is", Y, Y_AFTER)
        one, other = steps_of(boxes, rises), steps_of(boxes, stays)
        self.told(one, other, steps_of(boxes, ("either", rises, stays)), steps_of(boxes, ("both", rises, stays)))


class TestStepsAreTheAskersOwn(unittest.TestCase):
    def test_what_is_handed_in_stays(self):
        one, other = [A, B, C], [B, C, D]
        for tell in (within, joined, both):
            tell(one, other)
            tell(other, one)
            tell(one, one)
        self.assertEqual((one, other), ([A, B, C], [B, C, D]))

    def test_no_list_handed_in_is_told(self):
        for tell in (joined, both):
            for one, other in (([], []), ([A], []), ([], [A]), ([A], [A]), ([A, B], [B])):
                kept = copy.deepcopy((one, other))
                expected = tell(one, other)
                tell(one, other).append("spoiled")
                self.assertEqual((one, other), kept)
                self.assertEqual(tell(one, other), expected)
            one = [A, B]
            told = tell(one, one)
            self.assertIsNot(told, one)
            one.clear()
            self.assertEqual(told, [A, B])


def way(guard, puts, place=0):
    return (guard, puts, place)


class TestOwnSteps(unittest.TestCase):
    def told(self, hand, expected, boxes=BOXES):
        self.assertEqual(own_steps(boxes, hand), expected)

    def test_of_one_way(self):
        self.told([[way(YES, ((0, ONE),))]], [((0, k), (1, k)) for k in range(3)])
        self.told([[way(("less", X, Y), ((0, ONE),))]], [((0, 1), (1, 1)), ((0, 2), (1, 2))])
        self.told([[way(YES, ((1, ("plus", Y, ONE)),))]], [
            ((0, 0), (0, 1)), ((0, 1), (0, 2)), ((1, 0), (1, 1)), ((1, 1), (1, 2)),
        ])

    def test_of_no_rows_and_of_ways_that_never_go(self):
        self.told([], [])
        self.told([[way(NO, ((0, ONE),))]], [])
        self.told([[way(YES, ((0, number(2)),))]], [])
        self.told([[way(YES, ((1, ("minus", X, number(2))),))]], [])

    def test_of_unlike_stands_alone(self):
        self.told([[way(YES, ())]], [])
        self.told([[way(YES, ((0, X), (1, Y)))]], [])
        self.told([[way(YES, ((1, X),))]], [
            ((0, 1), (0, 0)), ((0, 2), (0, 0)), ((1, 0), (1, 1)), ((1, 2), (1, 1)),
        ])

    def test_of_every_row_and_every_way(self):
        boxes = [("x", 3)]
        ways = [way(("is", X, number(k)), ((0, number((k + 2) % 4)),)) for k in range(4)]
        expected = [((k,), ((k + 2) % 4,)) for k in range(4)]
        self.told([ways], expected, boxes)
        self.told([[one] for one in ways], expected, boxes)
        self.told([[one] for one in reversed(ways)], expected, boxes)
        self.told([ways[2:], ways[:2]], expected, boxes)

    def test_of_rows_to_which_no_way_leads(self):
        self.told([[way(YES, (), 2)], [way(("is", Y, ONE), ((0, ONE),), 2)]], [((0, 1), (1, 1))])

    def test_each_once(self):
        one = way(("is", Y, ONE), ((0, ONE),))
        self.told([[one, one], [one]], [((0, 1), (1, 1))])
        self.told([[one], [way(YES, ((0, ONE),))]], [((0, k), (1, k)) for k in range(3)])

    def test_by_chance(self):
        chance = random.Random(8)
        for unused in range(80):
            boxes = some_boxes(chance)
            hand = some_hand(chance, boxes, 4)
            pairs = {(stand, stand_behind(boxes, one, stand)) for row in hand for one in row for stand in stands(boxes)}
            self.told(hand, sorted(pair for pair in pairs if pair[1] not in (None, pair[0])), boxes)

    def test_within_what_it_promises(self):
        hand = [[way(("less", X, ONE), ((0, ("plus", X, ONE)), (1, Y)))]]
        self.assertIsNone(within(own_steps(BOXES, hand), steps_of(BOXES, ("less", X, X_AFTER))))
        self.assertEqual(within(own_steps(BOXES, hand), steps_of(BOXES, ("less", Y, Y_AFTER))), ((0, 0), (1, 0)))

    def test_of_twenty_four_stands(self):
        boxes = [("x", 3), ("y", 5)]
        hand = [[way(YES, ((0, number(k)), (1, ("minus", number(5), Y)))) for k in range(4)] for unused in range(8)]
        expected = [(stand, (k, 5 - stand[1])) for stand in stands(boxes) for k in range(4)]
        self.told(hand, expected, boxes)

    def test_what_is_told_is_the_askers_own(self):
        hand = [[way(("is", Y, ONE), ((0, ONE),))], [way(YES, (), 1)]]
        boxes = list(BOXES)
        kept = copy.deepcopy((boxes, hand))
        for handed in (hand, []):
            expected = own_steps(boxes, handed)
            own_steps(boxes, handed).append("spoiled")
            self.assertEqual(own_steps(boxes, handed), expected)
        self.assertEqual((boxes, hand), kept)
        told = own_steps(boxes, hand)
        hand.clear()
        boxes.pop()
        self.assertEqual(told, [((0, 1), (1, 1))])

    def test_great_numbers_come_of_no_way(self):
        self.assertEqual(within([((HUGE,), (0,))], []), ((HUGE,), (0,)))
        self.told([[way(YES, ((0, number(99)),))]], [])


if __name__ == "__main__":
    unittest.main()
