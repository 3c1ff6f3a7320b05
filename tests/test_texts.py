import copy
import random
import unittest

from handpromise.conds import cond_of
from handpromise.errors import NoBoxes, NoHouse, NoText, TooMany
from handpromise.houses import house_of
from handpromise.texts import read_cond, read_house, shown_cond, shown_house
from tests.helper import (
    HUGE, NO, ONE, OTHER_KINDS, X, X_AFTER, Y, Y_AFTER, YES, deep_kinds, is_the_askers_own, left_leaning, lists_in,
    number, put, row_of_nots, some_boxes, some_cond, some_parts, tame_parts, up, wait,
)

BOXES = [("x", 1), ("yy", 3)]

# Plain conditions, and how they are written.
PLAIN = [
    (YES, "yes"),
    (NO, "not yes"),
    (("not", NO), "not not yes"),
    (("is", X, ONE), "(x = 1)"),
    (("less", X, Y), "(x < yy)"),
    (("is", Y, X), "(yy = x)"),
    (("is", number(0), number(99)), "(0 = 99)"),
    (("less", number(10), number(9)), "(10 < 9)"),
    (("is", ("plus", X, Y), number(2)), "((x + yy) = 2)"),
    (("is", number(2), ("minus", X, Y)), "(2 = (x - yy))"),
    (("less", ("plus", ("minus", X, ONE), Y), ("minus", X, ("plus", ONE, Y))), "(((x - 1) + yy) < (x - (1 + yy)))"),
    (("not", ("is", X, ONE)), "not (x = 1)"),
    (("both", YES, NO), "(yes and not yes)"),
    (("either", NO, YES), "(not yes or yes)"),
    (("both", ("is", X, ONE), ("less", Y, X)), "((x = 1) and (yy < x))"),
    (("not", ("either", ("is", X, X), YES)), "not ((x = x) or yes)"),
    (("either", ("both", YES, YES), ("not", ("both", NO, YES))), "((yes and yes) or not (not yes and yes))"),
]
# Conditions that aren't plain.
PROMISES = [
    (("is", X_AFTER, X), "(x' = x)"),
    (("less", Y, Y_AFTER), "(yy < yy')"),
    (("is", ("plus", X_AFTER, Y_AFTER), ONE), "((x' + yy') = 1)"),
    (("both", YES, ("not", ("less", X, ("minus", ONE, X_AFTER)))), "(yes and not (x < (1 - x')))"),
]
# Texts that write no condition for these boxes.
NO_TEXTS = [
    "", " ", "\n", "()", "(", ")", "(yes)", "((x = 1))", "yes yes", "yesyes", "yes)", "(yes", "Yes", "YES", "yes'",
    "true", "no", "not", "not ", "notyes", "not(x = 1)", "not  yes", "not\nyes", "Not yes", "yes not", "not x", "not 1",
    "not (x + 1)", "not yes'", "not' yes",
    " yes", "yes ", "yes\n", "\nyes", " (x = 1)", "(x = 1) ", "( x = 1)", "(x = 1 )", "(x  = 1)", "(x =  1)", "(x= 1)",
    "(x =1)", "(x=1)", "(x = 1", "x = 1)", "x = 1", "((x = 1)", "(x = 1))", "[x = 1]", "(x\n= 1)", "(x == 1)",
    "(x <= 1)", "(x > 1)", "(1 > x)", "(x != 1)", "(x is 1)", "(x less 1)", "(x = )", "( = x)", "(x =)", "(=)",
    "(x = 1 = x)", "(x = 1 and yes)", "(x)", "x", "1", "x'", "(x + 1)", "(x - 1)", "((x + 1) - yy)",
    "(x = 01)", "(x = 00)", "(x = 100)", "(x = 099)", "(x = 1000)", "(x = -1)", "(x = +1)", "(x = 1.0)", "(x = 1e1)",
    "(x = 1_0)", "(x = 1x)", "(x = x1)", "(x = " + "1" * 61 + ")", "(x = " + "9" * 3990 + ")", "(x = " + "0" * 61 + ")",
    "(z = 1)", "(y = 1)", "(yyy = 1)", "(xx = 1)", "(X = 1)", "(x = zz)", "((x + z) = 1)", "(z' = 1)", "(x_ = 1)",
    "(and = 1)", "(nothing = 1)", "(yes = 1)", "(x = yes)", "(yes = yes)", "(yes < x)", "(yes + x)", "((yes + x) = 1)",
    "((x = 1) = x)", "((x = 1) < (x = 1))", "(((x = 1) + x) = 1)", "((x - yes) = 1)", "(x + 1 = yy)", "(x + 1)",
    "((x+1) = yy)", "((x + 1)= yy)", "((x + 1) =yy)", "(x * 1)", "((x * 1) = yy)", "((x / 1) = yy)",
    "((x + 1 + yy) = 1)",
    "((x + ) = 1)", "(( + x) = 1)", "((x) = 1)", "(-x = 1)", "((-x) = 1)",
    "(x1)", "(1x)", "(x(x = 1))", "((x = 1)yes)", "((x = 1)(x = 1))", "(yes(x = 1))", "(x'x)", "((x + 1)(x + 1))",
    "(x and yes)", "(yes and x)", "(1 or yes)", "(yes or 1)", "(yes or (x + 1))", "(yes and yes and yes)",
    "(yes or yes or yes)", "yes and yes", "(yes and)", "(and yes)", "(yes or )", "(yes and  yes)", "(yes  and yes)",
    "(yes And yes)", "(yes & yes)", "(yes, yes)", "(yes and yes or yes)", "(yesand yes)", "(yes andyes)",
    "(not = 1)", "(x = not)", "(x = not 1)", "(not x = 1)", "(yes and not)", "(not and yes)", "((yes) and yes)",
    "(x '= 1)", "(x''= 1)", "(1' = x)", "('x = 1)", "(x = ')", "yes | yes", "yes do nothing to 0", "begin yes", "x\n",
    "(x = \u0661)", "(x = \u00b2)", "(\u00e4 = 1)", "(x\u00a0= 1)", "(x = 1)\u2028", "\ufeffyes",
]
# Texts that write a condition that isn't plain, or none at all.
SPOILED_PROMISES = [
    "(x'' = x)", "(x ' = x)", "('x = x)", "(1' = x)", "((x + 1)' = x)", "(z' = x)", "(x' = x')'", "(x'= x)", "x'",
    "(x` = x)", "(x' and yes)", "not x'", "(yes' = x)", "(X' = x)",
]


def bushy(word, depth, inner):
    # 2 ** (depth + 1) - 1 parts, of no great depth.
    for unused in range(depth):
        inner = (word, inner, inner)
    return inner


class TestShown(unittest.TestCase):
    def test_each_kind(self):
        for cond, text in PLAIN + PROMISES:
            self.assertEqual(shown_cond(BOXES, cond), text)

    def test_all_numbers(self):
        for n in range(100):
            self.assertEqual(shown_cond(BOXES, ("is", number(n), X)), "({} = x)".format(n))

    def test_each_box_by_its_name(self):
        boxes = [("a", 1), ("bcdefghi", 1), ("and", 1), ("z", 2)]
        for box, (name, top) in enumerate(boxes):
            told = shown_cond(boxes, ("less", ("box", box), ("after", box)))
            self.assertEqual(told, "({0} < {0}')".format(name))


class TestRead(unittest.TestCase):
    def reads(self, boxes, text, plain, cond):
        told = read_cond(boxes, text, plain)
        self.assertEqual(told, cond)
        self.assertIs(type(told), tuple)
        self.assertIs(cond_of(boxes, told, plain), told)

    def test_each_kind(self):
        for cond, text in PLAIN:
            self.reads(BOXES, text, True, cond)
            self.reads(BOXES, text, False, cond)
        for cond, text in PROMISES:
            self.reads(BOXES, text, False, cond)

    def test_all_numbers(self):
        for n in range(100):
            self.reads(BOXES, "(x = {})".format(n), True, ("is", X, number(n)))
            self.reads(BOXES, "({} < (x - {}))".format(n, n), True, ("less", number(n), ("minus", X, number(n))))

    def test_names_that_are_beginnings_of_one_another(self):
        boxes = [("a", 1), ("aa", 1), ("aaa", 1), ("aaaaaaaa", 1)]
        for box, (name, top) in enumerate(boxes):
            for other, (second, top) in enumerate(boxes):
                self.reads(boxes, "({} = {})".format(name, second), True, ("is", ("box", box), ("box", other)))
                self.reads(boxes, "({}' < {}')".format(name, second), False, ("less", ("after", box), ("after", other)))
        for name in ("aaaa", "aaaaaaa", "aaaaaaaaa", "aaaaaaaaaa"):
            self.assertRaises(NoText, read_cond, boxes, "({} = a)".format(name), True)

    def test_names_that_are_words(self):
        words = ["and", "or", "do", "to", "nothing", "is", "less", "box", "begin", "hand", "promise", "note", "row",
                 "yess", "nots", "ye", "no", "y", "n", "knot", "eyes"]
        for first in words:
            for second in words:
                if first != second:
                    boxes = [(first, 1), (second, 1)]
                    text = "(({0} = {1}) and (({1} + {0}) < {0}))".format(first, second)
                    self.reads(boxes, text, True, ("both", ("is", X, Y), ("less", ("plus", Y, X), X)))
                    text = "(not ({0}' < {0}) or ({1} = ({0} - {1}')))".format(first, second)
                    cond = ("either", ("not", ("less", X_AFTER, X)), ("is", Y, ("minus", X, Y_AFTER)))
                    self.reads(boxes, text, False, cond)

    def test_names_that_begin_with_words(self):
        boxes = [("yesno", 1), ("noty", 1), ("notyes", 1), ("yesyes", 1)]
        for box, (name, top) in enumerate(boxes):
            self.reads(boxes, "not ({} = 1)".format(name), True, ("not", ("is", ("box", box), ONE)))
            self.assertRaises(NoText, read_cond, boxes, name, True)
            self.assertRaises(NoText, read_cond, boxes, "not " + name, True)

    def test_shown_and_read_back(self):
        chance = random.Random(11)
        for unused in range(600):
            boxes = some_boxes(chance)
            plain = [("box", k) for k in range(len(boxes))]
            leaves = plain + [("after", k) for k in range(len(boxes))]
            cond = some_cond(chance, plain, 2)
            promise = some_cond(chance, leaves, 2)
            for one, is_plain in ((cond, True), (cond, False), (promise, False)):
                try:
                    cond_of(boxes, one, is_plain)
                except TooMany:
                    self.assertRaises(TooMany, read_cond, boxes, shown_cond(boxes, one), is_plain)
                else:
                    self.reads(boxes, shown_cond(boxes, one), is_plain, one)

    def test_what_is_read_is_shown_as_the_very_text(self):
        # Texts spoiled by chance: what is let by must be written just so.
        chance = random.Random(12)
        seen = {True: 0, False: 0}
        for unused in range(4000):
            text = chance.choice(PLAIN + PROMISES)[1]
            at = chance.randrange(len(text) + 1)
            signs = chance.choice(["", "", " ", "(", ")", "'", "1", "0", "x", "y", "+", "not ", "yes", " = ", " and "])
            text = text[:at] + signs + text[at + chance.randrange(3):]
            try:
                told = read_cond(BOXES, text, False)
            except NoText:
                seen[False] += 1
            else:
                seen[True] += 1
                self.assertEqual(shown_cond(BOXES, told), text)
        self.assertGreater(min(seen.values()), 100)

    def test_boxes_are_left_as_they_are(self):
        for text in ("yes", "(x = yy)", "not (x' = 1)"):
            is_the_askers_own(self, read_cond, BOXES, text, False)
        is_the_askers_own(self, shown_cond, BOXES, PROMISES[0][0])


class TestNoText(unittest.TestCase):
    def refused(self, text, plain=True, boxes=BOXES):
        with self.assertRaises(NoText):
            read_cond(boxes, text, plain)

    def test_texts_that_write_no_condition(self):
        for text in NO_TEXTS:
            with self.subTest(text=text[:50]):
                self.refused(text)
                self.refused(text, False)

    def test_texts_within_another_one(self):
        for text in NO_TEXTS:
            for around in ("not {}", "({} and yes)", "(yes or {})", "not (not {} or (x = 1))"):
                self.refused(around.format(text), False)

    def test_an_after_where_a_plain_one_is_due(self):
        for cond, text in PROMISES:
            self.refused(text)
            self.refused("not " + text)
            self.refused("(yes and " + text + ")")

    def test_afters_that_are_none(self):
        for text in SPOILED_PROMISES:
            self.refused(text, False)

    def test_what_is_no_text(self):
        others = [b"yes", ["yes"], ("yes",), YES, {"yes": 1}, ["y", "e", "s"], bytearray(b"yes")]
        kinds = [thing for thing in OTHER_KINDS if not isinstance(thing, str)]
        for thing in kinds + others + deep_kinds():
            for plain in (True, False):
                with self.assertRaises(NoText):
                    read_cond(BOXES, thing, plain)

    def test_boxes_of_others(self):
        self.refused("(x = 1)", True, [("y", 1)])
        self.refused("(b = 1)", True, [("a", 1)])

    def test_a_blank_or_bracket_left_out(self):
        for cond, text in PLAIN + PROMISES:
            for at in range(len(text)):
                if text[at] in "() ":
                    self.refused(text[:at] + text[at + 1:], False)

    def test_a_blank_more(self):
        for cond, text in PLAIN + PROMISES:
            for at in range(len(text) + 1):
                self.refused(text[:at] + " " + text[at:], False)

    def test_a_bracket_more(self):
        for cond, text in PLAIN + PROMISES:
            for at in range(len(text) + 1):
                for bracket in ("(", ")", "()"):
                    self.refused(text[:at] + bracket + text[at:], False)

    def test_brackets_round_the_whole(self):
        for cond, text in PLAIN + PROMISES:
            self.refused("(" + text + ")", False)

    def test_a_hundred_deep(self):
        self.refused("(" * 100)
        self.refused("(" * 100 + ")" * 100)
        self.refused("not " * 100)
        self.refused("not " * 100 + "x")
        self.refused("(" * 100 + "x" + " + 1)" * 99 + " = 1")
        self.refused("(" * 100 + "x" + " + 1)" * 100)
        self.refused("(" * 99 + "x" + " + 1)" * 99 + ")")


class TestParts(unittest.TestCase):
    def refused(self, text, plain=True):
        with self.assertRaises(TooMany):
            read_cond(BOXES, text, plain)

    def test_just_forty(self):
        forty = row_of_nots(39, YES)
        self.assertEqual(read_cond(BOXES, "not " * 39 + "yes", True), forty)
        many = left_leaning("plus", 18, X)
        cond = ("not", ("is", many, X))
        self.assertEqual(read_cond(BOXES, "not (" + "(" * 18 + "x" + " + x)" * 18 + " = x)", True), cond)
        self.assertEqual(read_cond(BOXES, "(yes and " * 19 + "not yes" + ")" * 19, True)[0], "both")

    def test_forty_one(self):
        self.refused("not " * 40 + "yes")
        self.refused("(yes and " * 20 + "yes" + ")" * 20)
        self.refused("(" * 20 + "yes" + " or yes)" * 20)
        self.refused("(x = " + "(x + " * 19 + "x" + ")" * 19 + ")")
        self.refused("(x' = " + "(x + " * 19 + "x" + ")" * 19 + ")", False)

    def test_many_more(self):
        self.refused("not " * 100 + "yes")
        self.refused("not " * 99 + "(x = 1)")
        self.refused("(" * 100 + "x" + " + 1)" * 99 + " = 1)")
        self.refused("(x = " + "(1 - " * 99 + "x" + ")" * 99 + ")")
        self.refused("(yes and " * 100 + "yes" + ")" * 100)
        self.refused(shown_cond(BOXES, bushy("both", 7, YES)))
        self.refused(shown_cond(BOXES, ("is", bushy("plus", 6, X), bushy("minus", 6, ONE))))

    def test_no_text_ahead_of_too_many(self):
        for text in ("not " * 60 + "x", "not " * 60 + "yes ", "(yes and " * 30 + "yes" + ")" * 29,
                     "not " * 60 + "(x = z)",
                     "(yes and " * 30 + "(x = 100)" + ")" * 30, "(yes and " * 30 + "(x' = 1)" + ")" * 30,
                     "(yes and " * 30 + "(x = 01)" + ")" * 30, "(yes and " * 30 + "yes" + ")" * 31,
                     "(" * 50 + "x" + " + 1)" * 50, "(yes and " * 30 + "1" + ")" * 30,
                     "((x = x) and " * 30 + "x" + ")" * 30,
                     "((x + 1) and " + "not " * 60 + "yes)"):
            with self.subTest(text=text), self.assertRaises(NoText):
                read_cond(BOXES, text, True)


# A house with all that can be written in it, and its text.
HOUSE = (
    [("x", 1), ("y", 2)],
    ("both", ("is", X, number(0)), ("is", Y, number(0))),
    [
        [[(("less", X, Y), ((0, ("plus", X, ONE)), (1, number(0))), 1), (YES, (), 0)], [(NO, ((1, X),), 2)]],
        [],
        [[put(0, 1, 1), up(1, 0), wait(1, 2, 1), (YES, ((0, ("minus", X, ("plus", Y, ONE))),), 1)]],
    ],
    [("is", X_AFTER, X), YES, ("both", ("less", X, X_AFTER), ("not", ("is", Y_AFTER, Y)))],
    [[YES, ("less", X, ONE), NO], [("is", X, X)], [YES, YES]],
)
NAMES = ["ann", "x", "nothing"]
TEXT = """box x 1
box y 2
begin ((x = 0) and (y = 0))
hand ann
promise (x' = x)
note yes
row (x < y) do x = (x + 1), y = 0 to 1 | yes do nothing to 0
note (x < 1)
row not yes do y = x to 2
note not yes
hand x
promise yes
note (x = x)
hand nothing
promise ((x < x') and not (y' = y))
note yes
row yes do x = 1 to 1 | yes do y = (y + 1) to 0 | (y = 2) do nothing to 1 | yes do x = (x - (y + 1)) to 1
note yes"""
SMALL = "box x 1\nbegin yes\nhand a\npromise yes\nnote yes\nrow yes do x = 1 to 1\nnote yes"
LINES = SMALL.split("\n")
ROW = LINES.index("row yes do x = 1 to 1")


def with_line(at, line):
    return "\n".join(LINES[:at] + [line] + LINES[at + 1:])


class TestHouses(unittest.TestCase):
    def both_ways(self, house, names, text=None):
        shown = shown_house(house, names)
        self.assertIs(type(shown), str)
        if text is not None:
            self.assertEqual(shown, text)
        told = read_house(shown)
        self.assertEqual(told, (house, names))
        self.assertIs(type(told), tuple)
        self.assertIs(type(told[1]), list)
        self.assertEqual(house_of(*told[0]), house)
        self.assertEqual(shown_house(*told), shown)

    def test_one_of_all_kinds(self):
        self.both_ways(house_of(*HOUSE), NAMES, TEXT)

    def test_the_smallest(self):
        self.both_ways(house_of([("x", 1)], YES, [[]], [YES], [[YES]]), ["a"],
                       "box x 1\nbegin yes\nhand a\npromise yes\nnote yes")

    def test_the_example_of_a_row(self):
        text = with_line(ROW, "row (x < 2) do x = (x + 1), y = 0 to 1").replace("box x 1", "box x 2\nbox y 1")
        way = (("less", X, number(2)), ((0, ("plus", X, ONE)), (1, number(0))), 1)
        house, names = read_house(text)
        self.assertEqual(house[2], [[[way]]])
        self.assertEqual(shown_house(house, names), text)

    def test_one_to_three_hands(self):
        for count in (1, 2, 3):
            hands = [[[up(0, 1)]] for unused in range(count)]
            house = house_of([("x", 1)], YES, hands, [YES] * count, [[YES, NO]] * count)
            self.both_ways(house, ["a", "b", "abcdefgh"][:count])

    def test_none_to_eight_rows_of_one_to_four_ways(self):
        for count in range(9):
            for ways in range(1, 5):
                hand = [[(YES, ((0, X),), place)] * ways for place in range(count)]
                self.both_ways(house_of([("x", 1)], YES, [hand], [YES], [[YES] * (count + 1)]), ["a"])

    def test_one_to_four_boxes_and_their_tops(self):
        for tops in ((1,), (7,), (1, 1), (2, 7), (1, 2, 3), (1, 1, 1, 2)):
            boxes = [("abcd"[k], top) for k, top in enumerate(tops)]
            puts = tuple((k, ("box", k)) for k in range(len(tops)))
            self.both_ways(house_of(boxes, YES, [[[(YES, puts, 1)]]], [YES], [[YES, YES]]), ["a"])

    def test_a_hand_called_like_a_box_or_a_word(self):
        house = house_of([("x", 1)], YES, [[], []], [YES, YES], [[YES], [YES]])
        for name in ("x", "yes", "not", "hand", "do", "to", "and", "nothing", "abcdefgh"):
            self.both_ways(house, [name, "b"])
            self.both_ways(house, ["b", name])

    def test_boxes_called_by_words(self):
        words = ["do", "to", "nothing", "and", "or", "row", "note", "hand", "box", "begin", "promise", "yess", "nots"]
        for first in words:
            for second in words:
                if first != second:
                    boxes = [(first, 1), (second, 1)]
                    way = (("is", X, Y), ((0, Y), (1, X)), 0)
                    hand = [[way, (("not", ("less", Y, X)), ((1, ("plus", X, Y)),), 1), (YES, (), 1), put(0, 1, 0)]]
                    promise = ("either", ("is", X_AFTER, Y), ("less", Y_AFTER, X))
                    house = house_of(boxes, ("is", X, Y), [hand], [promise], [[YES, ("is", X, Y)]])
                    self.both_ways(house, ["a"])

    def test_a_box_called_nothing(self):
        text = "box nothing 1\nbegin yes\nhand nothing\npromise yes\nnote yes\nrow {}\nnote yes"
        for row, puts in (("yes do nothing to 0", ()), ("yes do nothing = nothing to 0", ((0, X),)),
                          ("yes do nothing = 1 to 0", ((0, ONE),))):
            house, names = read_house(text.format(row))
            self.assertEqual(house[2], [[[(YES, puts, 0)]]])
            self.assertEqual(shown_house(house, names), text.format(row))
        for row in ("yes do nothing", "yes do nothing = 1", "yes do nothing = nothing",
                    "yes do nothing, nothing = 1 to 0",
                    "yes do nothing = 1, nothing to 0", "yes do nothing nothing to 0"):
            self.assertRaises(NoText, read_house, text.format(row))

    def test_by_chance(self):
        for seed in range(150):
            for parts in (some_parts(seed), tame_parts(seed)):
                house = house_of(*parts)
                self.both_ways(house, ["a", "bb", "x"][:len(house[2])])

    def test_long_texts(self):
        many = row_of_nots(39, YES)
        hands = [[[(many, (), 0)] * 4 for unused in range(8)], [[(many, (), 0)] * 4 for unused in range(8)]]
        house = house_of([("x", 1)], many, hands, [many, many], [[many] * 9, [many] * 9])
        self.both_ways(house, ["a", "b"])

    def test_its_lists_are_its_own(self):
        is_the_askers_own(self, read_house, TEXT)
        house = house_of(*HOUSE)
        kept = copy.deepcopy(house)
        self.assertEqual(shown_house(house, NAMES), TEXT)
        self.assertEqual((house, NAMES), (kept, ["ann", "x", "nothing"]))
        house[2][0].clear()
        self.assertEqual(shown_house(kept, NAMES), TEXT)

    def test_no_two_lists_are_one(self):
        text = "box x 1\nbegin yes" + "\nhand {}\npromise yes\nnote yes\nrow yes do nothing to 0\nnote yes" * 3
        lists = [id(one) for one in lists_in(read_house(text.format("a", "b", "c")))]
        self.assertEqual(len(set(lists)), len(lists))


class NoHouses(unittest.TestCase):
    def refused(self, refusal, text):
        with self.subTest(text=str(text)[:200]), self.assertRaises(refusal):
            read_house(text)


class TestNoHouseText(NoHouses):
    def spoiled(self, at, *lines):
        for line in lines:
            self.refused(NoText, with_line(at, line))

    def test_the_text_that_is_spoiled_below_is_one(self):
        for text in (SMALL, TEXT):
            self.assertEqual(shown_house(*read_house(text)), text)

    def test_what_is_no_text(self):
        kinds = [thing for thing in OTHER_KINDS if not isinstance(thing, str)]
        for thing in kinds + [SMALL.encode(), LINES, tuple(LINES), HOUSE, (HOUSE, NAMES)] + deep_kinds():
            with self.assertRaises(NoText):
                read_house(thing)

    def test_texts_that_are_none(self):
        for text in ("", " ", "\n", "x", "yes", "box x 1", "begin yes", "hand a", SMALL + SMALL, SMALL + "\n" + SMALL):
            self.refused(NoText, text)

    def test_line_feeds_and_blanks_at_the_ends(self):
        for more in ("\n", " ", "\n\n", "\t", "\r", "\r\n"):
            self.refused(NoText, SMALL + more)
            self.refused(NoText, more + SMALL)
            self.refused(NoText, TEXT + more)
        for between in ("\r\n", "\n\n", " ", "\r", "\n ", " \n", "\x0b", "\x0c", "\x1c", "\u2028"):
            self.refused(NoText, SMALL.replace("\n", between))

    def test_each_line_lacking(self):
        for text in (SMALL, TEXT):
            lines = text.split("\n")
            for at in range(len(lines)):
                if not lines[at].startswith("box"):
                    self.refused(NoText, "\n".join(lines[:at] + lines[at + 1:]))
        self.refused(NoText, TEXT.replace("box x 1\n", ""))
        self.refused(NoText, TEXT.replace("box y 2\n", ""))

    def test_each_line_twice(self):
        for text in (SMALL, TEXT):
            lines = text.split("\n")
            for at in range(len(lines)):
                self.refused(NoText, "\n".join(lines[:at + 1] + lines[at:]))

    def test_each_line_in_another_place(self):
        for text in (SMALL, TEXT):
            lines = text.split("\n")
            for at in range(len(lines)):
                for to in range(len(lines)):
                    left = lines[:at] + lines[at + 1:]
                    moved = left[:to] + [lines[at]] + left[to:]
                    # Lines of one word may stand in the place of one another.
                    if [line.split()[0] for line in moved] != [line.split()[0] for line in lines]:
                        self.refused(NoText, "\n".join(moved))

    def test_each_line_by_another_word(self):
        for text in (SMALL, TEXT):
            lines = text.split("\n")
            for at, line in enumerate(lines):
                word, unused, rest = line.partition(" ")
                for other in ("", "Box", word + word, word[:-1], word.upper(), " " + word, word + " ", word + ":",
                              "# "):
                    self.refused(NoText, "\n".join(lines[:at] + [other + " " + rest] + lines[at + 1:]))
                for spoiled in (word, word + " ", word + rest, word + "  " + rest, line + " ", line + " yes", "", " "):
                    self.refused(NoText, "\n".join(lines[:at] + [spoiled] + lines[at + 1:]))

    def test_empty_lines_between(self):
        for at in range(len(LINES) + 1):
            for line in ("", " ", "yes", "end", "# note"):
                self.refused(NoText, "\n".join(LINES[:at] + [line] + LINES[at:]))

    def test_box_lines(self):
        names = ["", "X", "x1", "1", "x_", "x'", "abcdefghi", "x,y", "yes", "not", "\u00e4", "x\t"]
        for name in names:
            self.spoiled(0, "box {} 1".format(name), "box x 1\nbox {} 1".format(name), "box {} 1\nbox x 1".format(name))
        tops = ["", "x", "01", "00", "-1", "+1", "1.0", "1 ", " 1", "1 1", "1,", "1_0", "one", "\u0661", "\u00b2",
                "1\r"]
        self.spoiled(0, *["box x {}".format(top) for top in tops])
        self.spoiled(0, "box x", "box 1 x", "box x1", "box x=1", "box x 1 y 1", "box x  1", "box (x 1)")

    def test_tops_of_more_than_sixty_figures(self):
        self.spoiled(0, "box x " + "1" * 61, "box x 1" + "0" * 60, "box x " + "7" * 3900)
        self.refused(NoBoxes, with_line(0, "box x " + "1" * 60))
        self.refused(NoBoxes, with_line(0, "box x {}".format(HUGE)))

    def test_boxes_of_one_name(self):
        self.spoiled(0, "box x 1\nbox x 1", "box x 1\nbox y 1\nbox x 2", "box y 1\nbox y 2\nbox x 1")

    def test_boxes_called_yes_or_not(self):
        for name in ("yes", "not"):
            self.spoiled(0, "box {} 1".format(name), "box x 1\nbox {} 1".format(name), "box {} 1\nbox x 1".format(name))

    def test_hand_lines(self):
        self.spoiled(2, *["hand " + name for name in (
            "", "A", "a1", "abcdefghi", "a b", "a ", " a", "a_", "a'", "1", "a\t", "\u00e4", "(a)", "a,b")])

    def test_hands_of_one_name(self):
        more = "\nhand {}\npromise yes\nnote yes"
        self.assertEqual(read_house(SMALL + more.format("b"))[1], ["a", "b"])
        self.refused(NoText, SMALL + more.format("a"))
        self.refused(NoText, SMALL + more.format("b") + more.format("a"))
        self.refused(NoText, SMALL + more.format("b") + more.format("b"))

    def test_no_hand_at_all(self):
        self.refused(NoText, "\n".join(LINES[:2]))
        self.refused(NoText, "box x 1\nbox y 1\nbegin (x = y)")

    def test_conditions_that_are_none(self):
        for text in NO_TEXTS:
            text = text.replace("yy", "y")
            for at, word in ((1, "begin"), (3, "promise"), (4, "note"), (6, "note")):
                self.spoiled(at, word + " " + text)
            self.spoiled(ROW, "row " + text + " do x = 1 to 1", "row yes do nothing to 1 | " + text + " do x = 1 to 1")
        for at, word in ((1, "begin"), (4, "note"), (6, "note")):
            self.spoiled(at, word + " (x' = x)")
        self.spoiled(ROW, "row (x' = x) do x = 1 to 1")
        self.spoiled(3, *["promise " + text for text in SPOILED_PROMISES])
        self.assertEqual(read_house(with_line(3, "promise (x' = x)"))[0][3], [("is", X_AFTER, X)])

    def test_a_box_that_no_line_above_tells(self):
        for line in ("begin (y = 1)", "note (y = 1)", "promise (y' = y)", "row (y = 1) do x = 1 to 1",
                     "row yes do x = y to 1", "row yes do y = 1 to 1"):
            at = [k for k, other in enumerate(LINES) if other.split()[0] == line.split()[0]][0]
            self.spoiled(at, line)
            self.refused(NoText, with_line(at, line + "\nbox y 1"))
            self.refused(NoText, with_line(at, line) + "\nbox y 1")

    def test_rows_without_ways(self):
        self.spoiled(ROW, "row", "row ", "row |", "row  | ", "row nothing", "row  | yes do x = 1 to 1")

    def test_ways(self):
        self.spoiled(
            ROW, "row yes", "row yes do", "row yes do ", "row yes do x = 1", "row yes do x = 1 to",
            "row yes do x = 1 to ", "row do x = 1 to 1", "row yes x = 1 to 1", "row yes to 1", "row yes do to 1",
            "row yes do  to 1", "row yes do nothing", "row yes do nothing to", "row yes do Nothing to 1",
            "row yes  do nothing to 1", "row yes do  nothing to 1", "row yes do nothing  to 1",
            "row yes do nothing to  1", "row yes do nothing to 1 ", "row yes do nothing, x = 1 to 1",
            "row yes do x = 1, nothing to 1", "row yes do nothing nothing to 1", "row yes Do nothing to 1",
            "row yes do nothing To 1", "row yes,do nothing to 1", "row (yes do nothing to 1)",
            "row yesdo nothing to 1", "row yes donothing to 1", "row yes do nothingto 1", "row yes do nothing to1",
            "row (x = 1 do nothing to 1", "row yes to 1 do nothing", "row nothing to 1",
        )

    def test_bars_between_ways(self):
        way = "yes do x = 1 to 1"
        good = "row {0} | {0}".format(way)
        self.assertEqual(len(read_house(with_line(ROW, good))[0][2][0][0]), 2)
        for bar in ("|", " |", "| ", "  | ", " |  ", " || ", " | | ", ", ", " ", "", " or ", "\n"):
            self.spoiled(ROW, "row " + way + bar + way)
        self.spoiled(ROW, good + " |", good + " | ", "row | " + way, "row  | " + way, good + "|",
                     "row " + way + " | yes")

    def test_puts(self):
        for puts in ("x", "x =", "x = ", "= 1", "x=1", "x =1", "x= 1", "x  = 1", "x =  1", "x == 1", "x + 1", "(x = 1)",
                     "x' = 1", "X = 1", "1 = x", "1 = 1", "z = 1", "x = z", "x = x'", "x = (x' + 1)", "x = yes",
                     "x = (x = 1)", "x = (x < 1)", "x = not yes", "x = 100", "x = 01", "x = -1", "x = x + 1", "x = (x)",
                     "x = (x + 1", "x = x + 1)", "x = 1,", "x = 1, ", ", x = 1", "yes", "x = 1 and", "yes = 1",
                     "x = 1 x = 1", "x = 1; x = 1", "x to 1", "x = nothing", "nothing = 1", "x = " + "9" * 61):
            self.spoiled(ROW, "row yes do " + puts + " to 1", "row yes do nothing to 1 | yes do " + puts + " to 1")

    def test_commas_between_puts(self):
        text = with_line(ROW, "row yes do x = 1{}y = 1 to 1").replace("box x 1", "box x 1\nbox y 1")
        self.assertEqual(read_house(text.format(", "))[0][2][0][0][0][1], ((0, ONE), (1, ONE)))
        for comma in (",", " , ", " ,", ",  ", " ", "", " and ", ", , ", ",, ", "; ", " | ", ",\n"):
            self.refused(NoText, text.format(comma))

    def test_puts_of_a_box_twice_or_not_in_order(self):
        text = "box b 1\nbox a 1\nbox c 1\nbegin yes\nhand a\npromise yes\nnote yes\nrow yes do {} to 1\nnote yes"
        for good in ("b", "a", "c", "ba", "bc", "ac", "bac"):
            self.assertIsInstance(read_house(text.format(", ".join(name + " = 1" for name in good))), tuple)
        for wrong in ("bb", "aa", "cc", "ab", "cb", "ca", "bab", "abc", "bca", "cab", "bacc", "bbac", "acb", "baa"):
            self.refused(NoText, text.format(", ".join(name + " = 1" for name in wrong)))

    def test_places_not_written_as_numbers(self):
        for place in ("", "01", "00", "-1", "+1", "x", "end", "1.0", "1_0", "1x", "(1)", "1, 2", "0 1", "\u0661",
                      "1" * 61, "1" + "0" * 60, "9" * 3000, "0" * 61):
            self.spoiled(ROW, "row yes do x = 1 to " + place,
                         "row yes do nothing to " + place + " | yes do nothing to 0",
                         "row yes do nothing to 0 | yes do x = 1 to " + place)

    def test_numbers_above_99(self):
        for at, line in ((1, "begin (x < 100)"), (3, "promise (x < 100)"), (4, "note (x < 100)"),
                         (ROW, "row (x < 100) do x = 1 to 1"), (ROW, "row yes do x = 100 to 1")):
            self.spoiled(at, line)
            self.assertIsInstance(read_house(with_line(at, line.replace("100", "99"))), tuple)

    def test_spoiled_by_chance(self):
        # What is let by must be written just so.
        chance = random.Random(13)
        seen = {True: 0, False: 0}
        for unused in range(3000):
            at = chance.randrange(len(TEXT) + 1)
            signs = chance.choice(["", "", " ", "\n", "(", ")", "'", "1", "0", "x", "y", ",", "not ", "yes", " | ",
                                   "note "])
            text = TEXT[:at] + signs + TEXT[at + chance.randrange(3):]
            try:
                told = read_house(text)
            except (NoText, NoBoxes, NoHouse, TooMany) as refusal:
                seen[False] += isinstance(refusal, NoText)
            else:
                seen[True] += 1
                self.assertEqual(shown_house(*told), text)
        self.assertGreater(min(seen.values()), 100)


def hand_text(name, rows):
    return "hand {}\npromise yes\n".format(name) + "note yes\nrow yes do nothing to 0\n" * rows + "note yes"


class TestWhatIsRead(NoHouses):
    def house(self, boxes="box x 1", begin="yes", hands=(hand_text("a", 1),)):
        lines = [boxes] if boxes else []
        return "\n".join(lines + ["begin " + begin] + list(hands))

    # Each with a text that is refused so; a wrong line behind it makes it no text.
    def behind_no_text(self, refusal, text):
        self.refused(refusal, text)
        for more in ("\nnote yes", "\n", "\nhand b\npromise yes\nnote (z = 1)", "\nhand b\npromise yes", "\nhand B",
                     "\nhand b\npromise yes\nnote yes\nrow yes\nnote yes"):
            self.refused(NoText, text + more)
        self.refused(NoText, text + text[text.rindex("\nhand"):])
        self.refused(NoText, text.replace("begin ", "begin  "))

    def test_boxes_that_are_none(self):
        self.assertIsInstance(read_house(self.house()), tuple)
        for top in ("0", "8", "9", "10", "99", "100", str(HUGE)):
            self.behind_no_text(NoBoxes, self.house("box x " + top))
        self.behind_no_text(NoBoxes, self.house(None))
        self.behind_no_text(NoBoxes, self.house("\n".join("box {} 1".format(name) for name in "abcdef")))
        self.behind_no_text(NoBoxes, self.house("\n".join("box {} 1".format(name) for name in "abcdefghijklmnop")))

    def test_too_many_stands(self):
        self.behind_no_text(TooMany, self.house("box x 4\nbox y 4"))
        self.behind_no_text(TooMany, self.house("\n".join("box {} 1".format(name) for name in "abcde")))
        self.assertIsInstance(read_house(self.house("box x 3\nbox y 5")), tuple)

    def test_no_house(self):
        many = "not " * 40 + "yes"
        self.assertIsInstance(read_house(self.house(begin="not " * 39 + "yes")), tuple)
        self.behind_no_text(NoHouse, self.house(begin=many))
        self.behind_no_text(NoHouse, self.house(hands=[hand_text("a", 9)]))
        self.behind_no_text(NoHouse, self.house(hands=[hand_text("a", 30)]))
        self.behind_no_text(NoHouse, self.house(hands=[hand_text(name, 0) for name in "cdef"]))
        for place in ("2", "3", "99", "1" * 60):
            self.behind_no_text(NoHouse, self.house().replace("to 0", "to " + place))
        way = "yes do nothing to 0"
        self.assertIsInstance(read_house(self.house().replace(way, " | ".join([way] * 4))), tuple)
        self.behind_no_text(NoHouse, self.house().replace(way, " | ".join([way] * 5)))
        self.behind_no_text(NoHouse, self.house().replace(way, " | ".join([way] * 50)))

    def test_more_than_forty_parts(self):
        many = "not " * 40 + "yes"
        for word in ("promise yes", "note yes", "row yes"):
            text = self.house().replace(word, word.split()[0] + " " + many)
            self.behind_no_text(NoHouse, text)
        text = self.house().replace("do nothing", "do x = " + "(x + " * 20 + "x" + ")" * 20)
        self.behind_no_text(NoHouse, text)
        text = self.house().replace("do nothing", "do x = " + "(x + " * 19 + "x" + ")" * 19)
        self.assertIsInstance(read_house(text), tuple)

    def test_too_many_states(self):
        # 24 stands, 6 and 7 places are 1008 states.
        boxes = "box x 3\nbox y 5"
        self.behind_no_text(TooMany, self.house(boxes, hands=[hand_text("c", 5), hand_text("d", 6)]))
        self.assertIsInstance(read_house(self.house(boxes, hands=[hand_text("c", 5), hand_text("d", 5)])), tuple)

    def test_in_their_order(self):
        many = "not " * 40 + "yes"
        self.behind_no_text(NoBoxes, self.house("box x 8\nbox y 7", begin=many))
        self.behind_no_text(TooMany, self.house("box x 7\nbox y 7", begin=many))
        rows = [hand_text(name, 7) for name in "cde"]
        self.behind_no_text(TooMany, self.house(hands=rows))
        self.behind_no_text(NoHouse, self.house(hands=rows[:2] + [hand_text("e", 9)]))
        self.behind_no_text(NoHouse, self.house(begin=many, hands=rows))

    def test_a_hundred_deep(self):
        self.behind_no_text(NoHouse, self.house(begin="not " * 100 + "yes"))
        deep = "(" * 99 + "x" + " + 1)" * 99
        self.behind_no_text(NoHouse, self.house().replace("do nothing", "do x = " + deep))
        self.refused(NoText, self.house(begin="not " * 100 + "x"))


if __name__ == "__main__":
    unittest.main()
