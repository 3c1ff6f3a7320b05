import copy
import random
import unittest

from handpromise.conds import boxes_in, cond_of, holds, stands_of, steps_of, sum_of, value
from handpromise.errors import NoCond, TooMany
from handpromise.stands import stands
from tests.helper import (
    HUGE, NO, ONE, X, X_AFTER, Y, Y_AFTER, YES, left_leaning, number, row_of_nots, some_cond, some_sum, text_of,
)

BOXES = [("x", 1), ("y", 3)]

# Things of which none is a condition or a sum.
OTHER_KINDS = [
    None, True, False, 0, 1, -1, HUGE, 0.5, 1j, "", "x", "yes", b"yes", [], ["yes"], ["number", 1], {}, {"yes": 1},
    set(), {"yes"}, frozenset(), range(2), object(), int, len, float("nan"), iter([]), (), (None,), (1,), (True,),
    (["yes"],), (("yes",),), ({},), ({"yes"},), (b"yes",), ("",), ("Yes",), ("YES",), (" yes",), ("yes ",), ("no",),
    ("and", YES, YES), ("cond", YES), ("sum", ONE), ("number", "1"),
]


def doubled(depth, word, inner):
    for unused in range(depth):
        inner = (word, inner, inner)
    return inner


# Thirty-nine parts.
EIGHTEEN_PLUS = ("is", X, left_leaning("plus", 18, X))


class Looking(unittest.TestCase):
    def no_cond(self, thing, plain=False, boxes=BOXES):
        with self.assertRaises(NoCond):
            cond_of(boxes, thing, plain)

    def no_sum(self, thing, plain=False, boxes=BOXES):
        with self.assertRaises(NoCond):
            sum_of(boxes, thing, plain)

    def too_many(self, thing, plain=False):
        with self.assertRaises(TooMany):
            cond_of(BOXES, thing, plain)

    def too_many_in_sum(self, thing, plain=False):
        with self.assertRaises(TooMany):
            sum_of(BOXES, thing, plain)


class TestLetBy(Looking):
    def test_sums(self):
        for thing in (
            number(0), number(1), number(99), X, Y, ("plus", X, Y), ("minus", ONE, X),
            ("plus", ("minus", X, ONE), ("plus", Y, number(99))),
        ):
            for plain in (True, False):
                with self.subTest(thing=thing, plain=plain):
                    self.assertIs(sum_of(BOXES, thing, plain), thing)

    def test_conditions(self):
        for thing in (
            YES, ("is", X, Y), ("less", X, ONE), NO, ("both", YES, YES), ("either", NO, YES),
            ("both", ("not", ("is", X, ("plus", Y, ONE))), ("either", ("less", X, Y), YES)),
        ):
            for plain in (True, False):
                with self.subTest(thing=thing, plain=plain):
                    self.assertIs(cond_of(BOXES, thing, plain), thing)

    def test_every_box_is_met(self):
        boxes = [(name, 1) for name in "abcde"]
        for k in range(5):
            self.assertEqual(sum_of(boxes, ("box", k), True), ("box", k))
            self.assertEqual(sum_of(boxes, ("after", k), False), ("after", k))

    def test_what_was_handed_in_stays(self):
        boxes = list(BOXES)
        thing = ("both", ("is", X, Y), ["no", "condition"])
        kept = copy.deepcopy(thing)
        self.no_cond(thing, True, boxes)
        cond_of(boxes, ("is", X, Y), True)
        sum_of(boxes, X, True)
        self.assertEqual(thing, kept)
        self.assertEqual(boxes, BOXES)

    def test_only_the_boxes_of_the_call_count(self):
        boxes = list(BOXES)
        self.assertEqual(sum_of(boxes, Y, True), Y)
        boxes.pop()
        self.no_sum(Y, True, boxes)
        boxes.append(("z", 2))
        self.assertEqual(sum_of(boxes, Y, True), Y)


class TestNoNumber(Looking):
    def test_numbers(self):
        for n in (-1, 100, 101, HUGE, -HUGE, True, False, None, "1", "", 1.0, (1,), [1], ONE, X, {}, YES):
            with self.subTest(n=n):
                self.no_sum(number(n))
                self.no_sum(number(n), True)
                self.no_cond(("is", number(n), X))
                self.no_cond(("less", X, number(n)))

    def test_boxes(self):
        for k in (-1, -2, 2, 5, 99, HUGE, -HUGE, True, False, None, "x", "0", 0.0, (0,), [0], ONE, X, {}):
            with self.subTest(k=k):
                self.no_sum(("box", k))
                self.no_sum(("box", k), True)
                self.no_sum(("after", k))
                self.no_sum(("after", k), True)
                self.no_cond(("is", ("box", k), X))
                self.no_cond(("less", X, ("after", k)))

    def test_boxes_of_other_boxes(self):
        self.no_sum(Y, True, [("x", 7)])
        self.no_sum(Y_AFTER, False, [("x", 7)])
        self.no_sum(("box", 5), True, [(name, 1) for name in "abcde"])


class TestNoForm(Looking):
    def test_another_count(self):
        for thing in (
            ("number",), ("box",), ("after",), ("plus",), ("minus",), ("number", 1, 1), ("box", 0, 0), ("after", 0, 0),
            ("plus", X), ("minus", X), ("plus", X, Y, X), ("minus", X, Y, X),
        ):
            with self.subTest(thing=thing):
                self.no_sum(thing)
                self.no_cond(("is", thing, X))
                self.no_cond(("less", X, thing))
        for thing in (
            ("yes", YES), ("yes", None), ("is",), ("less",), ("is", X), ("less", X), ("is", X, Y, X), ("less", X, Y, X),
            ("not",), ("not", YES, YES), ("both",), ("both", YES), ("both", YES, YES, YES), ("either",),
            ("either", YES), ("either", YES, YES, YES),
        ):
            with self.subTest(thing=thing):
                self.no_cond(thing)
                self.no_cond(("not", thing))
                self.no_cond(("both", YES, thing))

    def test_a_sum_where_a_condition_is_due(self):
        for thing in (ONE, X, X_AFTER, ("plus", X, Y), ("minus", X, Y)):
            with self.subTest(thing=thing):
                self.no_cond(thing)
                self.no_cond(("not", thing))
                self.no_cond(("both", thing, YES))
                self.no_cond(("both", YES, thing))
                self.no_cond(("either", thing, YES))
                self.no_cond(("either", YES, thing))

    def test_a_sum_s_word_with_conditions(self):
        self.no_cond(("plus", YES, YES))
        self.no_cond(("minus", YES, YES))

    def test_a_condition_where_a_sum_is_due(self):
        for thing in (YES, ("is", X, Y), ("less", X, Y), NO, ("both", YES, YES), ("either", YES, YES)):
            with self.subTest(thing=thing):
                self.no_sum(thing)
                for word in ("plus", "minus"):
                    self.no_sum((word, thing, X))
                    self.no_sum((word, X, thing))
                for word in ("is", "less"):
                    self.no_cond((word, thing, X))
                    self.no_cond((word, X, thing))

    def test_things_of_any_other_kind_in_every_place(self):
        for thing in OTHER_KINDS:
            with self.subTest(thing=thing):
                self.no_sum(thing)
                self.no_cond(thing)
                self.no_cond(("not", thing))
                for word in ("both", "either"):
                    self.no_cond((word, thing, YES))
                    self.no_cond((word, YES, thing))
                for word in ("is", "less"):
                    self.no_cond((word, thing, X))
                    self.no_cond((word, X, thing))
                for word in ("plus", "minus"):
                    self.no_sum((word, thing, X))
                    self.no_sum((word, X, thing))

    def test_a_list_in_a_tuple_s_place(self):
        self.no_cond(["is", X, Y])
        self.no_cond(("is", ["box", 0], Y))
        self.no_sum(["plus", X, Y])

    def test_a_thing_that_holds_itself(self):
        thing = []
        thing.append(thing)
        self.no_cond(thing)
        self.no_cond((thing,))
        self.no_cond(("not", thing))
        self.no_sum(("number", thing))


class TestPlain(Looking):
    def test_after_where_none_is_due(self):
        self.no_sum(X_AFTER, True)
        self.no_sum(("plus", X, Y_AFTER), True)
        self.no_sum(("minus", Y_AFTER, X), True)
        self.no_cond(("is", X, X_AFTER), True)
        self.no_cond(("less", X_AFTER, X), True)
        self.no_cond(("not", ("is", X_AFTER, X)), True)
        self.no_cond(("both", YES, ("is", X, ("plus", ONE, Y_AFTER))), True)
        self.no_cond(("either", YES, ("is", X, ("minus", ONE, Y_AFTER))), True)

    def test_after_in_a_promise(self):
        for thing in (X_AFTER, Y_AFTER, ("plus", X, Y_AFTER), ("minus", Y_AFTER, X)):
            self.assertIs(sum_of(BOXES, thing, False), thing)
        for thing in (
            ("is", X, X_AFTER), ("less", X_AFTER, X), ("not", ("is", X_AFTER, X)),
            ("both", YES, ("is", X, ("plus", ONE, Y_AFTER))),
        ):
            self.assertIs(cond_of(BOXES, thing, False), thing)


class TestCountOfParts(Looking):
    def test_forty_and_forty_one(self):
        for forty, more in (
            (row_of_nots(39, YES), row_of_nots(40, YES)),
            (("both", row_of_nots(37, YES), YES), ("both", row_of_nots(38, YES), YES)),
            (("both", YES, row_of_nots(37, YES)), ("both", YES, row_of_nots(38, YES))),
            (row_of_nots(37, ("is", X, Y)), row_of_nots(38, ("is", X, Y))),
            (("not", left_leaning("either", 19, YES)), left_leaning("either", 20, YES)),
            (row_of_nots(1, EIGHTEEN_PLUS), row_of_nots(2, EIGHTEEN_PLUS)),
        ):
            with self.subTest(forty=forty):
                self.too_many(more)
                self.too_many(more, True)
                self.assertIs(cond_of(BOXES, forty, True), forty)
                self.assertIs(cond_of(BOXES, forty, False), forty)

    def test_thirty_nine_and_forty_one_in_sums(self):
        # A sum of plus and minus has an odd number of parts.
        for word in ("plus", "minus"):
            thing = left_leaning(word, 19, ONE)
            self.assertIs(sum_of(BOXES, thing, True), thing)
            self.too_many_in_sum(left_leaning(word, 20, ONE))
        forty = ("not", ("is", left_leaning("plus", 17, X), ("plus", ONE, X)))
        self.assertIs(cond_of(BOXES, forty, True), forty)
        self.too_many(("not", forty))

    def test_parts_alike_count_each_time(self):
        thing = doubled(4, "both", YES)
        self.assertIs(cond_of(BOXES, thing, True), thing)
        self.too_many(doubled(5, "both", YES))

    def test_each_look_counts_anew(self):
        for unused in range(3):
            thing = row_of_nots(39, YES)
            self.assertIs(cond_of(BOXES, thing, True), thing)

    def test_the_forty_first_whatever_it_is(self):
        for thing in OTHER_KINDS + [("is", X), ("number", 100), ("box", -1), X_AFTER, YES, X]:
            with self.subTest(thing=thing):
                self.too_many(row_of_nots(40, thing), True)
                self.too_many(("both", row_of_nots(38, YES), thing), True)
                self.too_many_in_sum(("plus", left_leaning("plus", 19, X), thing), True)

    def test_the_fortieth_that_is_none(self):
        for thing in OTHER_KINDS + [("is", X), ("number", 100), ("box", -1), X_AFTER, X]:
            with self.subTest(thing=thing):
                self.no_cond(row_of_nots(39, thing), True)
                self.no_cond(("both", row_of_nots(37, YES), thing), True)

    def test_the_fortieth_of_a_sum_that_is_none(self):
        for thing in OTHER_KINDS + [("plus", X), ("number", 100), ("box", -1), X_AFTER, YES]:
            with self.subTest(thing=thing):
                self.no_sum(("plus", ("minus", left_leaning("plus", 18, X), thing), X), True)

    def test_the_fortieth_that_is_none_ahead_of_its_own_parts(self):
        self.no_cond(row_of_nots(39, ("both", YES)))
        self.no_cond(row_of_nots(39, ("plus", X, X)))
        self.too_many(row_of_nots(39, ("both", None, None)))
        self.too_many(row_of_nots(39, ("is", None, None)))

    def test_whichever_comes_first(self):
        many = row_of_nots(60, YES)
        many_sums = left_leaning("plus", 60, X)
        for word in ("both", "either"):
            self.no_cond((word, None, many))
            self.too_many((word, many, None))
            self.no_cond((word, many))
            self.no_cond((word, many, many, many))
        for word in ("is", "less"):
            self.no_cond((word, None, many_sums))
            self.too_many((word, many_sums, None))
            self.no_cond((word, many_sums, many_sums, X))
        for word in ("plus", "minus"):
            self.no_sum((word, X_AFTER, many_sums), True)
            self.too_many_in_sum((word, X_AFTER, many_sums), False)
            self.too_many_in_sum((word, many_sums, X_AFTER), True)
        self.no_cond(("is", many, X))
        self.no_sum(("both", many, many))
        self.no_cond(("less", ("plus", X, ("number", 100)), many_sums))
        self.no_cond(("nor", many, many))
        self.no_sum(("number", many))

    def test_depth_first_not_breadth_first(self):
        # The left one's parts come ahead of the right one.
        self.too_many(("both", ("not", row_of_nots(40, YES)), None))
        self.no_cond(("both", ("not", ("not", None)), row_of_nots(60, YES)))
        self.no_cond(("both", ("both", YES, None), row_of_nots(60, YES)))

    def test_parts_within_parts_a_hundred_deep(self):
        for word in ("both", "either"):
            self.too_many(doubled(98, word, YES))
            self.too_many(doubled(98, word, None))
            self.no_cond((word, None, doubled(98, word, YES)))
            self.no_cond((word, doubled(98, word, YES)))
            self.no_cond((word, ("not",), doubled(97, word, YES)))
        for word in ("plus", "minus"):
            self.too_many_in_sum(doubled(98, word, X))
            self.no_sum((word, ("box", 2), doubled(97, word, X)))
            self.no_cond(doubled(98, word, X))
            self.too_many(("is", doubled(97, word, X), X))
        self.too_many(row_of_nots(99, YES))

    def test_what_is_refused_early_a_hundred_deep(self):
        deep = doubled(97, "both", YES)
        for thing in ((deep,), (deep, deep), ("number", deep), ("box", deep), ("yes", deep), ("other", deep, deep)):
            self.no_cond(thing)
            self.no_sum(thing)
        self.no_sum(deep)
        self.no_cond(("is", ("number", deep), X))
        self.no_cond([deep])


class TestValue(unittest.TestCase):
    def test_leaves(self):
        for n in (0, 1, 99):
            self.assertEqual(value(number(n), (0, 0), None), n)
        self.assertEqual(value(X, (1, 2), None), 1)
        self.assertEqual(value(Y, (1, 2), None), 2)
        self.assertEqual(value(X, (1, 2), (0, 3)), 1)
        self.assertEqual(value(X_AFTER, (1, 2), (0, 3)), 0)
        self.assertEqual(value(Y_AFTER, (1, 2), (0, 3)), 3)

    def test_plus_and_minus(self):
        self.assertEqual(value(("plus", X, Y), (1, 2), None), 3)
        self.assertEqual(value(("minus", Y, X), (1, 3), None), 2)
        self.assertEqual(value(("minus", Y_AFTER, Y), (1, 1), (0, 3)), 2)

    def test_below_nought(self):
        self.assertEqual(value(("minus", X, Y), (0, 3), None), -3)
        self.assertEqual(value(("minus", number(0), number(99)), (0, 0), None), -99)
        self.assertEqual(value(("plus", ("minus", X, Y), ONE), (0, 3), None), -2)
        self.assertEqual(value(("minus", ONE, ("minus", X, Y)), (0, 3), None), 4)

    def test_nested(self):
        self.assertEqual(value(("minus", ("minus", number(9), number(4)), number(3)), (0, 0), None), 2)
        self.assertEqual(value(("minus", number(9), ("minus", number(4), number(3))), (0, 0), None), 8)
        self.assertEqual(value(left_leaning("plus", 19, number(99)), (0, 0), None), 1980)
        self.assertEqual(value(left_leaning("minus", 19, number(99)), (0, 0), None), -1782)

    def test_a_hundred_deep(self):
        self.assertEqual(value(left_leaning("plus", 98, ONE), (0, 0), None), 99)

    def test_a_whole_number_is_told(self):
        for one in (ONE, X, ("plus", X, Y), ("minus", X, Y)):
            self.assertIs(type(value(one, (1, 1), None)), int)


class TestHolds(unittest.TestCase):
    def told(self, cond, expected, ahead=(0, 2), behind=None):
        self.assertIs(holds(cond, ahead, behind), expected)

    def test_yes(self):
        self.told(YES, True)
        self.told(NO, False)

    def test_is(self):
        self.told(("is", Y, number(2)), True)
        self.told(("is", Y, number(3)), False)
        self.told(("is", Y, number(1)), False)
        self.told(("is", ("minus", X, Y), ("minus", number(0), number(2))), True)

    def test_less(self):
        self.told(("less", Y, number(3)), True)
        self.told(("less", Y, number(2)), False)
        self.told(("less", Y, number(1)), False)
        self.told(("less", ("minus", X, Y), number(0)), True)
        self.told(("less", number(0), ("minus", X, Y)), False)

    def test_not(self):
        self.told(("not", ("is", Y, number(2))), False)
        self.told(("not", ("is", Y, number(3))), True)
        self.told(("not", NO), True)

    def test_both_and_either(self):
        for one, first in ((YES, True), (NO, False)):
            for other, second in ((YES, True), (NO, False)):
                self.told(("both", one, other), first and second)
                self.told(("either", one, other), first or second)

    def test_ahead_and_behind(self):
        self.told(("is", Y_AFTER, ("plus", Y, ONE)), True, (0, 2), (0, 3))
        self.told(("is", Y_AFTER, ("plus", Y, ONE)), False, (0, 3), (0, 2))
        self.told(("less", Y, Y_AFTER), True, (1, 0), (0, 1))
        self.told(("less", Y_AFTER, Y), False, (1, 0), (0, 1))
        self.told(("is", X, X_AFTER), False, (1, 0), (0, 1))

    def test_a_plain_one_looks_at_the_stand_ahead_alone(self):
        self.told(("is", Y, number(2)), True, (0, 2), (1, 1))
        self.told(("is", Y, number(1)), False, (0, 2), (1, 1))

    def test_a_hundred_deep(self):
        self.told(row_of_nots(98, YES), True)
        self.told(row_of_nots(97, YES), False)

    def test_as_python_says_it(self):
        chance = random.Random(7)
        leaves = [X, Y, X_AFTER, Y_AFTER]
        every = stands(BOXES)
        for unused in range(150):
            cond = some_cond(chance, leaves, 3)
            one = some_sum(chance, leaves, 3)
            cond_code = compile(text_of(cond), "cond", "eval")
            sum_code = compile(text_of(one), "sum", "eval")
            for ahead in every:
                for behind in every:
                    names = {"ahead": ahead, "behind": behind}
                    self.assertIs(holds(cond, ahead, behind), eval(cond_code, names), cond)
                    self.assertEqual(value(one, ahead, behind), eval(sum_code, names), one)


class TestStandsOf(unittest.TestCase):
    def test_stands(self):
        self.assertEqual(stands_of(BOXES, ("less", ("plus", X, number(1)), Y)), [(0, 2), (0, 3), (1, 3)])
        self.assertEqual(stands_of(BOXES, ("is", X, Y)), [(0, 0), (1, 1)])
        self.assertEqual(stands_of(BOXES, YES), stands(BOXES))
        self.assertEqual(stands_of(BOXES, NO), [])

    def test_rising(self):
        cond = ("either", ("is", X, ONE), ("is", Y, number(0)))
        self.assertEqual(stands_of(BOXES, cond), [(0, 0), (1, 0), (1, 1), (1, 2), (1, 3)])

    def test_what_is_told_is_the_askers_own(self):
        boxes = list(BOXES)
        told = stands_of(boxes, ("is", X, Y))
        told.append("spoiled")
        self.assertEqual(stands_of(boxes, ("is", X, Y)), [(0, 0), (1, 1)])
        again = stands_of(boxes, ("is", X, Y))
        boxes[1] = ("y", 1)
        self.assertEqual(again, [(0, 0), (1, 1)])
        self.assertEqual(stands_of(boxes, YES), [(0, 0), (0, 1), (1, 0), (1, 1)])


class TestStepsOf(unittest.TestCase):
    def test_steps(self):
        boxes = [("x", 2)]
        self.assertEqual(steps_of(boxes, ("less", X, X_AFTER)), [((0,), (1,)), ((0,), (2,)), ((1,), (2,))])
        self.assertEqual(steps_of(boxes, ("less", X_AFTER, X)), [((1,), (0,)), ((2,), (0,)), ((2,), (1,))])
        self.assertEqual(steps_of(boxes, ("is", X_AFTER, ("plus", X, ONE))), [((0,), (1,)), ((1,), (2,))])

    def test_of_unlike_stands_alone(self):
        self.assertEqual(
            steps_of([("x", 2)], YES),
            [((0,), (1,)), ((0,), (2,)), ((1,), (0,)), ((1,), (2,)), ((2,), (0,)), ((2,), (1,))],
        )
        self.assertEqual(steps_of(BOXES, ("both", ("is", X, X_AFTER), ("is", Y, Y_AFTER))), [])
        self.assertEqual(steps_of(BOXES, NO), [])

    def test_of_a_plain_one(self):
        self.assertEqual(steps_of([("x", 2)], ("is", X, ONE)), [((1,), (0,)), ((1,), (2,))])

    def test_all_of_them_rising(self):
        told = steps_of([("x", 3), ("y", 5)], YES)
        self.assertEqual(len(told), 24 * 23)
        self.assertEqual(told, sorted(set(told)))
        for step in told:
            self.assertIs(type(step), tuple)
            self.assertEqual([type(stand) for stand in step], [tuple, tuple])

    def test_two_boxes(self):
        cond = ("both", ("is", Y, Y_AFTER), ("less", X, X_AFTER))
        self.assertEqual(
            steps_of(BOXES, cond),
            [((0, 0), (1, 0)), ((0, 1), (1, 1)), ((0, 2), (1, 2)), ((0, 3), (1, 3))],
        )

    def test_what_is_told_is_the_askers_own(self):
        boxes = [("x", 1)]
        told = steps_of(boxes, YES)
        told.clear()
        self.assertEqual(steps_of(boxes, YES), [((0,), (1,)), ((1,), (0,))])
        self.assertEqual(boxes, [("x", 1)])


class TestBoxesIn(unittest.TestCase):
    def test_of_sums(self):
        self.assertEqual(boxes_in(ONE), [])
        self.assertEqual(boxes_in(number(0)), [])
        self.assertEqual(boxes_in(("box", 3)), [3])
        self.assertEqual(boxes_in(("plus", ("box", 3), ("minus", ("box", 1), ("box", 3)))), [1, 3])

    def test_of_conditions(self):
        self.assertEqual(boxes_in(YES), [])
        self.assertEqual(boxes_in(("is", ("box", 4), ("box", 2))), [2, 4])
        self.assertEqual(boxes_in(("less", ("box", 0), ("number", 5))), [0])
        self.assertEqual(boxes_in(("not", ("is", ONE, X))), [0])
        self.assertEqual(
            boxes_in(("either", ("both", ("is", ("box", 4), Y), YES), ("less", ("plus", ONE, Y), X))), [0, 1, 4]
        )

    def test_rising_each_once(self):
        one = ("plus", ("box", 4), ("plus", ("box", 0), ("plus", ("box", 4), ("plus", ("box", 2), ("box", 0)))))
        self.assertEqual(boxes_in(one), [0, 2, 4])
        self.assertEqual(boxes_in(("is", X, X)), [0])

    def test_without_those_of_after(self):
        self.assertEqual(boxes_in(X_AFTER), [])
        self.assertEqual(boxes_in(("is", Y_AFTER, X)), [0])
        self.assertEqual(boxes_in(("is", Y_AFTER, ("plus", Y, ONE))), [1])

    def test_what_is_told_is_the_askers_own(self):
        one = ("is", X, Y)
        told = boxes_in(one)
        told.append(7)
        self.assertEqual(boxes_in(one), [0, 1])
        self.assertEqual(one, ("is", X, Y))


if __name__ == "__main__":
    unittest.main()
