import copy
import itertools
import unittest

from handpromise.errors import NoBoxes, TooMany
from handpromise.stands import boxes_of, is_stand, stands
from tests.helper import HUGE, OTHER_KINDS, doubled, nested


class TestBoxesOf(unittest.TestCase):
    def refused(self, rows):
        with self.assertRaises(NoBoxes):
            boxes_of(rows)

    def test_boxes_as_they_stand(self):
        for rows in (
            [("x", 1)],
            [("x", 7)],
            [("abcdefgh", 3)],
            [("zyxwvuts", 3), ("a", 5)],
            [("b", 1), ("a", 2), ("ab", 3)],
            [("a", 1), ("b", 1), ("c", 1), ("d", 2)],
        ):
            with self.subTest(rows=rows):
                boxes = boxes_of(rows)
                self.assertEqual(boxes, rows)
                self.assertIs(type(boxes), list)
                for box in boxes:
                    self.assertIs(type(box), tuple)

    def test_every_letter_and_every_top(self):
        for letter in "abcdefghijklmnopqrstuvwxyz":
            self.assertEqual(boxes_of([(letter, 1)]), [(letter, 1)])
        for top in range(1, 8):
            self.assertEqual(boxes_of([("x", top)]), [("x", top)])
        for length in range(1, 9):
            self.assertEqual(boxes_of([("q" * length, 2)]), [("q" * length, 2)])

    def test_names_of_texts_are_no_business_of_boxes(self):
        self.assertEqual(boxes_of([("yes", 1), ("not", 1)]), [("yes", 1), ("not", 1)])

    def test_no_list(self):
        for rows in OTHER_KINDS + [(), (("x", 1),), ("x", 1), "ab", {("x", 1): 1}, {("x", 1)}, iter([("x", 1)])]:
            with self.subTest(rows=rows):
                self.refused(rows)

    def test_none_and_six_and_a_thousand(self):
        self.refused([])
        self.refused([(name, 1) for name in "abcdef"])
        self.refused([("x", 1)] * 1000)

    def test_five_boxes_have_always_more_than_twenty_four_stands(self):
        with self.assertRaises(TooMany):
            boxes_of([(name, 1) for name in "abcde"])

    def test_no_pair(self):
        for row in OTHER_KINDS + [(), ("x",), ("x", 1, 1), ("x", 1, None), ["x", 1], "ab", (1, "x"), (("x", 1),)]:
            with self.subTest(row=row):
                self.refused([row])
                self.refused([("a", 1), row])
                self.refused([row, ("a", 1)])

    def test_no_name(self):
        names = OTHER_KINDS + [
            "abcdefghi", "a" * 4000, "X", "aB", "Ab", "a1", "1", "a_b", "_", "a b", " a", "a ", "a'", "a\n", "\n",
            "-", "\u00e9", "\u00aa", "\u00df", "\u0430", ("x",), ["x"], "`", "{", "@", "[",
        ]
        for name in names:
            with self.subTest(name=name):
                self.refused([(name, 1)])
                self.refused([("a", 1), (name, 1)])

    def test_a_name_twice(self):
        self.refused([("x", 1), ("x", 1)])
        self.refused([("x", 1), ("x", 2)])
        self.refused([("a", 1), ("b", 1), ("a", 1)])
        self.refused([("a", 1), ("b", 1), ("c", 1), ("c", 1)])

    def test_no_top(self):
        for top in OTHER_KINDS + [8, -7, 9, 99, -HUGE, 1.0, "1", (1,), [1]]:
            with self.subTest(top=top):
                self.refused([("x", top)])
                self.refused([("a", 1), ("x", top)])

    def test_things_deep_within_one_another(self):
        for thing in (nested(98, list), nested(98, tuple), doubled(98)):
            self.refused(thing)
            self.refused([thing])
            self.refused([(thing, 1)])
            self.refused([("x", thing)])
            self.refused([("x", 1), ("y", thing)])

    def test_just_twenty_four_stands(self):
        for tops in ((7, 2), (2, 7), (3, 5), (1, 1, 5), (5, 3), (1, 2, 3), (1, 1, 1, 2), (7,)):
            rows = [("abcde"[k], top) for k, top in enumerate(tops)]
            with self.subTest(rows=rows):
                self.assertEqual(boxes_of(rows), rows)

    def test_just_more(self):
        for tops in ((4, 4), (7, 3), (6, 3), (2, 2, 2), (1, 1, 6), (1, 1, 1, 3), (1, 1, 1, 1, 1), (7, 7, 7, 7, 7)):
            rows = [("abcde"[k], top) for k, top in enumerate(tops)]
            with self.subTest(rows=rows), self.assertRaises(TooMany):
                boxes_of(rows)

    def test_no_boxes_ahead_of_too_many(self):
        many = [("a", 7), ("b", 7), ("c", 7)]
        self.refused(many + [("d", 8)])
        self.refused(many + [("d", 0)])
        self.refused(many + [("a", 1)])
        self.refused(many + [("D", 1)])
        self.refused(many + [None])
        self.refused([("d", HUGE)] + many)
        self.refused(many + [("d", 7), ("e", 7), ("f", 7)])
        self.refused([("a", 7), ("a", 7)])

    def test_what_is_handed_in_stays_and_what_is_told_is_the_askers_own(self):
        rows = [("x", 1), ("y", 2)]
        kept = copy.deepcopy(rows)
        boxes = boxes_of(rows)
        self.assertIsNot(boxes, rows)
        boxes.append("spoiled")
        self.assertEqual(rows, kept)
        self.assertEqual(boxes_of(rows), kept)
        again = boxes_of(rows)
        rows.append(("z", 1))
        self.assertEqual(again, kept)

    def test_what_is_refused_stays(self):
        rows = [("x", 1), ["y", 2], {"z": 1}]
        kept = copy.deepcopy(rows)
        self.refused(rows)
        self.assertEqual(rows, kept)


class TestStands(unittest.TestCase):
    def test_one_box(self):
        self.assertEqual(stands([("x", 1)]), [(0,), (1,)])
        self.assertEqual(stands([("x", 7)]), [(0,), (1,), (2,), (3,), (4,), (5,), (6,), (7,)])

    def test_two_boxes(self):
        self.assertEqual(
            stands([("x", 1), ("y", 2)]), [(0, 0), (0, 1), (0, 2), (1, 0), (1, 1), (1, 2)]
        )
        self.assertEqual(
            stands([("x", 2), ("y", 1)]), [(0, 0), (0, 1), (1, 0), (1, 1), (2, 0), (2, 1)]
        )

    def test_order_is_that_of_the_boxes_not_of_their_names(self):
        self.assertEqual(stands([("z", 1), ("a", 1)]), [(0, 0), (0, 1), (1, 0), (1, 1)])

    def test_all_of_them_rising(self):
        for tops in itertools.chain(
            itertools.product(range(1, 8)), itertools.product(range(1, 4), repeat=2),
            itertools.product(range(1, 3), repeat=3), [(1, 1, 1, 2), (2, 1, 1, 1), (1, 1, 1, 1, 1)],
        ):
            boxes = [("abcde"[k], top) for k, top in enumerate(tops)]
            told = stands(boxes)
            with self.subTest(boxes=boxes):
                self.assertEqual(told, sorted(told))
                self.assertEqual(told, list(itertools.product(*[range(top + 1) for top in tops])))

    def test_each_of_them_is_one(self):
        boxes = [("x", 3), ("y", 5)]
        self.assertEqual(len(stands(boxes)), 24)
        for stand in stands(boxes):
            self.assertIs(type(stand), tuple)
            self.assertIs(is_stand(boxes, stand), True)

    def test_what_is_handed_in_stays_and_what_is_told_is_the_askers_own(self):
        boxes = [("x", 1), ("y", 1)]
        told = stands(boxes)
        told.pop()
        told.append("spoiled")
        self.assertEqual(boxes, [("x", 1), ("y", 1)])
        self.assertEqual(stands(boxes), [(0, 0), (0, 1), (1, 0), (1, 1)])
        again = stands(boxes)
        boxes.pop()
        self.assertEqual(again, [(0, 0), (0, 1), (1, 0), (1, 1)])
        self.assertEqual(stands(boxes), [(0,), (1,)])


class TestIsStand(unittest.TestCase):
    def setUp(self):
        self.boxes = [("x", 1), ("y", 3)]

    def test_stands(self):
        for stand in ((0, 0), (1, 0), (0, 3), (1, 3)):
            self.assertIs(is_stand(self.boxes, stand), True)
        self.assertIs(is_stand([("x", 7)], (7,)), True)
        self.assertIs(is_stand([(name, 1) for name in "abcde"], (0, 1, 0, 1, 1)), True)

    def test_numbers_that_a_box_cannot_hold(self):
        for stand in ((2, 0), (0, 4), (-1, 0), (0, -1), (HUGE, 0), (0, HUGE), (0, -HUGE), (3, 1)):
            with self.subTest(stand=stand):
                self.assertIs(is_stand(self.boxes, stand), False)

    def test_another_count(self):
        for stand in ((), (0,), (0, 0, 0), (0,) * 1000):
            with self.subTest(stand=stand):
                self.assertIs(is_stand(self.boxes, stand), False)

    def test_a_list_is_none(self):
        self.assertIs(is_stand(self.boxes, [0, 0]), False)
        self.assertIs(is_stand([("x", 1)], [0]), False)

    def test_a_truth_is_no_number(self):
        for stand in ((True, 0), (0, True), (False, 0), (0, False), (True, True)):
            with self.subTest(stand=stand):
                self.assertIs(is_stand(self.boxes, stand), False)

    def test_things_of_quite_other_kinds(self):
        things = OTHER_KINDS + ["00", "xy", {0: 0, 1: 1}, b"\0\0", [(0, 0)], ((0, 0),), range(2)]
        for thing in things + [nested(99, list), nested(99, tuple), doubled(99)]:
            self.assertIs(is_stand(self.boxes, thing), False)

    def test_things_of_quite_other_kinds_in_a_number_s_place(self):
        for thing in OTHER_KINDS + ["0", (0,), [0], 0.0, 1.0, nested(98, list), doubled(98)]:
            if thing is False or thing != 0 or isinstance(thing, float):
                self.assertIs(is_stand(self.boxes, (thing, 0)), False)
                self.assertIs(is_stand(self.boxes, (0, thing)), False)

    def test_what_is_handed_in_stays(self):
        thing = ([0], 0)
        is_stand(self.boxes, thing)
        self.assertEqual(thing, ([0], 0))
        self.assertEqual(self.boxes, [("x", 1), ("y", 3)])


if __name__ == "__main__":
    unittest.main()
