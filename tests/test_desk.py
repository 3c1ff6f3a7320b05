import random
import unittest

from handpromise.desk import Desk
from handpromise.errors import NoBoxes, NoHouse, NoName, NoRow, NoStart, NoStep, NoText, PromiseError, TooMany
from handpromise.houses import house_of
from handpromise.texts import read_house, shown_house
from handpromise.trades import least
from tests.helper import (
    HUGE, OTHER_KINDS, deep_kinds, depths_of, every_stand, some_parts, some_weaving, starts_of, steps_on, tame_parts,
    task_of, weakest_by_rounds,
)

# The first hand opens the door x; the second waits for it, and then counts y.
DOOR = """box x 1
box y 2
begin ((x + y) = 0)
hand opens
promise ((y' = y) and not (x' < x))
note yes
row yes do x = 1 to 1
note (x = 1)
hand counts
promise (x' = x)
note yes
row (x = 1) do nothing to 1
note (x = 1)
row yes do y = (y + 1) to 1 | (y = 2) do nothing to 2
note ((x + y) = 3)"""
NEVER = DOOR.replace("begin ((x + y) = 0)", "begin not yes")

# Each hand counts a box of its own, without end; the third sees both.
FREE = """box a 1
box b 2
begin (a = 0)
hand a
promise yes
note yes
row yes do a = (1 - a) to 0
note yes
hand x
promise yes
note yes
row yes do b = (b + 1) to 0 | (b = 2) do b = 0 to 0 | yes do nothing to 1
note yes
hand sees
promise yes
note yes
row (a = b) do nothing to 1
note yes"""

# Here the second hand spoils what the first one's note says, when y is 2.
BROKEN = """box x 2
box y 2
begin (x = 0)
hand a
promise (y' = y)
note (x < 2)
row yes do x = (x + 1) to 1
note (x < 2)
hand b
promise yes
note yes
row (y = 2) do nothing to 1
note yes
row (x = 1) do x = 2 to 2
note yes"""


def answers(desk, *rows):
    return [desk.say(row) for row in rows]


class DeskCase(unittest.TestCase):
    def refused(self, refusal, desk, row):
        with self.assertRaises(refusal) as caught:
            desk.say(row)
        self.assertIs(type(caught.exception), refusal)
        return caught.exception

    def says(self, desk, row, answer):
        told = desk.say(row)
        self.assertEqual(told, answer)
        self.assertIs(type(told), str)


class TestMakingADesk(DeskCase):
    def test_of_a_house_s_text(self):
        for text in (DOOR, FREE, BROKEN):
            self.says(Desk(text), "show", text)

    def test_refused_as_texts_are(self):
        for refusal, text in (
            (NoText, ""), (NoText, DOOR + "\n"), (NoText, DOOR.replace("box x 1", "box x 01")), (NoText, None),
            (NoText, b"box x 1"), (NoText, 1), (NoBoxes, DOOR.replace("box x 1", "box x 8")),
            (TooMany, DOOR.replace("y 2", "y 7\nbox z 3")), (NoHouse, DOOR.replace("to 2", "to 3")),
        ):
            with self.assertRaises(refusal) as caught:
                Desk(text)
            self.assertIs(type(caught.exception), refusal)
        for thing in deep_kinds():
            with self.assertRaises(NoText):
                Desk(thing)


class TestHouseRows(DeskCase):
    def test_judge(self):
        self.says(Desk(DOOR), "judge", "good")
        self.says(Desk(NEVER), "judge", "good")
        self.says(Desk(FREE), "judge", "good")

    def test_judge_of_a_spoiled_house(self):
        self.says(Desk(BROKEN), "judge", "spoiled a 0 0")
        self.says(Desk(DOOR.replace("not (x' < x)", "yes")), "judge", "spoiled counts 0 0")
        two = "box x 1\nbox y 2\nbegin (x = 1)\nhand a\npromise {}\nnote {}\nhand b\npromise {}\nnote {}"
        self.says(Desk(two.format("yes", "yes", "not yes", "(y < 2)")), "judge", "spoiled b 1 0")
        self.says(Desk(two.format("not yes", "(y < 2)", "not yes", "yes")), "judge", "spoiled a 1 2")

    def test_broken_not_at_all(self):
        for text in (DOOR, FREE, DOOR.replace("not (x' < x)", "yes")):
            self.says(Desk(text), "broken", "no")

    def test_broken_by_a_note(self):
        self.says(Desk(BROKEN), "broken", "note a from 0 2 a:0 b:0 b:0")
        self.says(Desk(BROKEN.replace("begin (x = 0)", "begin (x = 2)")), "broken", "note a from 2 0")
        self.says(Desk(BROKEN.replace("note yes\nrow (x = 1)", "note (x = 1)\nrow (x = 1)")), "broken",
                  "note b from 0 2 b:0")

    def test_broken_by_a_promise(self):
        self.says(Desk(DOOR.replace("promise (x' = x)", "promise (y' = y)")), "broken",
                  "promise counts 0 from 0 0 opens:0 counts:0")
        self.says(Desk(FREE.replace("promise yes", "promise (b' = b)")), "broken", "promise x 0 from 0 0")
        text = FREE.replace("hand x\npromise yes", "hand x\npromise not (b' < b)")
        self.says(Desk(text), "broken", "promise x 1 from 0 2")

    def test_states_and_stuck(self):
        # Nought steps; opens; in; counted once, twice; done. None but the last is an end.
        self.assertEqual(answers(Desk(DOOR), "states", "stuck"), ["6", "0"])
        self.assertEqual(answers(Desk(DOOR.replace("(y = 2) do", "(y = 1) do")), "states", "stuck"), ["6", "1"])
        self.assertEqual(answers(Desk(NEVER), "states", "stuck"), ["0", "0"])
        # Where y isn't 2 only the first hand goes, and the second one stays ahead of its first row.
        self.assertEqual(answers(Desk(BROKEN), "states", "stuck"), ["9", "2"])

    def test_show(self):
        for text in (DOOR, FREE, BROKEN):
            desk = Desk(text)
            self.assertEqual(answers(desk, "show", "judge", "show"), [text, desk.say("judge"), text])


class TestPaperRows(DeskCase):
    def test_note(self):
        self.assertEqual(answers(Desk(DOOR), "note opens 0", "note opens 1"), ["6", "3"])
        self.assertEqual(answers(Desk(DOOR), "note counts 0", "note counts 1", "note counts 2"), ["6", "3", "1"])
        self.assertEqual(answers(Desk(BROKEN), "note a 0", "note a 1", "note b 2"), ["0", "0", "9"])

    def test_may(self):
        desk = Desk(DOOR)
        for place in "01":
            for x in "01":
                for y in "012":
                    answer = "yes" if place == "0" or x == "1" else "no"
                    self.says(desk, " ".join(["may opens", place, x, y]), answer)
        self.assertEqual(answers(desk, "may counts 2 1 2", "may counts 2 1 1", "may counts 2 0 2"), ["yes", "no", "no"])

    def test_asked_again_and_between_other_rows(self):
        desk = Desk(DOOR)
        rows = ["note opens 1", "may counts 2 0 2", "judge", "broken", "states", "stuck", "note counts 2", "show"]
        first = answers(desk, *rows)
        self.assertEqual(answers(desk, *rows), first)
        desk.say("start 0 0")
        desk.say("step opens 0")
        self.assertEqual(answers(desk, *reversed(rows)), first[::-1])

    def test_beside_papers_reckoned_otherwise(self):
        for seed in range(60):
            house = house_of(*(tame_parts(seed) if seed % 4 else some_parts(seed)))
            names = ["p", "q", "r"][:len(house[2])]
            desk = Desk(shown_house(house, names))
            for hand, name in enumerate(names):
                paper = weakest_by_rounds(task_of(house, hand))
                for place, listed in enumerate(paper):
                    self.says(desk, "note {} {}".format(name, place), str(len(listed)))
                    for stand in every_stand(house[0]):
                        row = "may {} {} {}".format(name, place, " ".join(map(str, stand)))
                        self.says(desk, row, "yes" if stand in listed else "no")


class TestWeavingRows(DeskCase):
    def test_a_weaving(self):
        desk = Desk(DOOR)
        self.assertEqual(answers(desk, "start 0 0", "state", "least"), ["ok", "0 0 / 0 0", "nothing"])
        self.assertEqual(answers(desk, "step opens 0", "state", "least"), ["ok", "1 0 / 1 0", "opens:0"])
        self.assertEqual(answers(desk, "step counts 0", "step counts 0", "state"), ["ok", "ok", "1 1 / 1 1"])
        self.assertEqual(answers(desk, "step counts 0", "step counts 1", "state"), ["ok", "ok", "1 2 / 1 2"])
        self.says(desk, "least", "opens:0 counts:0 counts:0 counts:0 counts:1")

    def test_the_least_form(self):
        desk = Desk(FREE)
        answers(desk, "start 0 0", "step x 0", "step a 0", "step x 0", "step a 0")
        self.says(desk, "least", "a:0 a:0 x:0 x:0")
        self.says(desk, "step x 1", "ok")
        self.says(desk, "step sees 0", "ok")
        self.says(desk, "step a 0", "ok")
        self.says(desk, "least", "a:0 a:0 x:0 x:0 x:1 sees:0 a:0")
        self.says(desk, "state", "1 0 / 0 0 1")

    def test_the_least_form_leaves_the_weaving_as_it_is(self):
        desk = Desk(FREE)
        answers(desk, "start 0 0", "step x 0")
        self.says(desk, "least", "x:0")
        self.assertEqual(answers(desk, "step a 0", "least", "least"), ["ok", "a:0 x:0", "a:0 x:0"])
        self.says(desk, "state", "1 1 / 0 0 0")

    def test_a_start_in_the_place_of_another_weaving(self):
        desk = Desk(FREE)
        self.assertEqual(answers(desk, "start 0 1", "step x 0", "step a 0", "state"), ["ok", "ok", "ok", "1 2 / 0 0 0"])
        self.assertEqual(answers(desk, "start 0 0", "state", "least"), ["ok", "0 0 / 0 0 0", "nothing"])
        self.assertEqual(answers(desk, "step sees 0", "state", "least"), ["ok", "0 0 / 0 0 1", "sees:0"])
        self.assertEqual(answers(desk, "start 0 0", "state", "least"), ["ok", "0 0 / 0 0 0", "nothing"])

    def test_by_chance(self):
        chance = random.Random(14)
        for seed in range(150):
            house = house_of(*(tame_parts(seed) if seed % 3 else some_parts(seed)))
            names = ["p", "q", "r"][:len(house[2])]
            desk = Desk(shown_house(house, names))
            for start in starts_of(house)[:2]:
                self.says(desk, "start " + " ".join(map(str, start)), "ok")
                steps = some_weaving(chance, house, start, 12)
                state = (start, (0,) * len(names))
                for count, (hand, way) in enumerate(steps):
                    self.says(desk, "step {} {}".format(names[hand], way), "ok")
                    state = dict(steps_on(house, state))[(hand, way)]
                    self.says(desk, "state", " / ".join(" ".join(map(str, numbers)) for numbers in state))
                form = least(house, start, steps)[0]
                self.says(desk, "least", " ".join("{}:{}".format(names[h], w) for h, w in form) or "nothing")

    def test_sixty_steps_and_one_more(self):
        desk = Desk(FREE)
        desk.say("start 0 0")
        for count in range(60):
            self.says(desk, "step a 0", "ok")
        self.says(desk, "state", "0 0 / 0 0 0")
        self.says(desk, "least", " ".join(["a:0"] * 60))
        for row in ("step a 0", "step x 0", "step sees 0", "step a 1", "step x 9", "step a " + "9" * 60):
            self.refused(TooMany, desk, row)
        for row in ("step b 0", "step  0", "step A 0"):
            self.refused(NoName, desk, row)
        for row in ("step a", "step a 00", "step a 0 0", "step b 00", "step a " + "9" * 61):
            self.refused(NoRow, desk, row)
        self.says(desk, "state", "0 0 / 0 0 0")
        self.says(desk, "least", " ".join(["a:0"] * 60))
        self.refused(NoStart, desk, "start 1 1")
        self.refused(TooMany, desk, "step a 0")
        self.assertEqual(answers(desk, "start 0 0", "step a 0", "least"), ["ok", "ok", "a:0"])

    def test_steps_that_do_not_go_do_not_count(self):
        desk = Desk(FREE)
        desk.say("start 0 0")
        for count in range(60):
            self.assertEqual(self.refused(NoStep, desk, "step x 1").place, count)
            self.assertEqual(self.refused(NoStep, desk, "step a 1").place, count)
            desk.say("step a 0")
        self.refused(TooMany, desk, "step x 1")


class TestNoRow(DeskCase):
    def desks(self):
        # One without a weaving, and one with.
        begun = Desk(DOOR)
        answers(begun, "start 0 0", "step opens 0")
        return [Desk(DOOR), begun]

    def refused_rows(self, *rows):
        for desk in self.desks():
            for row in rows:
                with self.subTest(row=row[:80]):
                    self.refused(NoRow, desk, row)

    def test_what_is_no_text(self):
        kinds = [thing for thing in OTHER_KINDS if not isinstance(thing, str)]
        for desk in self.desks():
            for thing in kinds + [b"judge", ["judge"], ("judge",), {"judge": 1}] + deep_kinds():
                with self.assertRaises(NoRow):
                    desk.say(thing)

    def test_another_first_word(self):
        self.refused_rows("", " ", "\n", "x", "Judge", "JUDGE", "judges", "judg", "good", "begin", "hand", "notes",
                          "opens", "yes", "0", "end", "ends", "road", "row", "steps", "0 0", "stepp opens 0", "look",
                          "help", "Start 0 0", "startx 0 0", "may: opens 0 0 0")

    def test_blanks_twice_or_at_an_end(self):
        for row in ("judge", "broken", "state", "least", "states", "stuck", "show", "start 0 0", "step opens 0",
                    "note opens 0", "may opens 0 0 0"):
            self.refused_rows(" " + row, row + " ", row.replace(" ", "  ") + " ", "  " + row, row + "  ")
            self.refused_rows("\n" + row, row + "\n", row + "\t", "\t" + row, row + "\r")
            for at in range(len(row)):
                if row[at] == " ":
                    self.refused_rows(row[:at] + "  " + row[at + 1:], row[:at] + "\t" + row[at + 1:],
                                      row[:at] + row[at + 1:])

    def test_too_many_words(self):
        for word in ("judge", "broken", "state", "least", "states", "stuck", "show"):
            for more in ("0", "opens", "yes", word, "0 0", "opens 0"):
                self.refused_rows(word + " " + more)

    def test_too_few_and_too_many_words(self):
        self.refused_rows("note", "note opens", "note 0", "note opens 0 0", "note opens counts 0", "note opens 0 opens")
        self.refused_rows("may", "may opens", "may opens 0", "may opens 0 0", "may opens 0 0 0 0", "may 0 0 0")
        self.refused_rows("start", "start 0", "start 0 0 0", "start 0 0 0 0", "start opens 0 0")
        self.refused_rows("step", "step opens", "step 0", "step opens 0 0", "step opens counts 0",
                          "step opens 0 counts 0")

    def test_words_that_are_no_numbers(self):
        for word in ("", "x", "00", "01", "-1", "+1", "-0", "1.0", "0x1", "1_0", "one", "0,", "1" * 61, "0" * 61, "1\n",
                     "\u0661", "\u00b2", "1/2", "opens", "a:0", "9" * 3900):
            for row in ("note opens {}", "note none {}", "may opens {} 0 0", "may opens 0 {} 0", "may opens 0 0 {}",
                        "may none 0 0 {}", "start {} 0", "start 0 {}", "step opens {}", "step none {}"):
                self.refused_rows(row.format(word))

    def test_as_many_values_as_boxes(self):
        for count in (1, 2, 3, 4):
            boxes = "".join("box {} 1\n".format("abcd"[k]) for k in range(count))
            desk = Desk(boxes + "begin yes\nhand a\npromise yes\nnote yes")
            for values in range(7):
                for row, answer in (("start", "ok"), ("may a 0", "yes")):
                    row = row + " 0" * values
                    if values == count:
                        self.says(desk, row, answer)
                    else:
                        self.refused(NoRow, desk, row)

    def test_as_long_as_no_weaving_is_begun(self):
        for row in ("state", "least", "step opens 0", "step counts 0", "step none 0", "step  0", "step opens 9"):
            desk = Desk(DOOR)
            self.refused(NoRow, desk, row)
            self.refused(NoStart, desk, "start 1 1")
            self.refused(NoRow, desk, row)
            answers(desk, "judge", "states", "note opens 0", "may opens 0 0 0", "show")
            self.refused(NoRow, desk, row)

    def test_places_that_are_none(self):
        for desk in self.desks():
            for row in ("note opens 2", "note opens 3", "note counts 3", "note opens " + "9" * 60, "may opens 2 0 0",
                        "may counts 3 0 0", "may opens 9 9 9", "may counts {} 0 0".format(HUGE)):
                self.refused(NoRow, desk, row)

    def test_values_of_may_that_are_no_stand(self):
        for desk in self.desks():
            for row in ("may opens 0 2 0", "may opens 0 0 3", "may counts 2 2 3", "may opens 0 0 {}".format(HUGE)):
                self.refused(NoRow, desk, row)
            self.says(desk, "may opens 0 1 2", "yes")


class TestNoName(DeskCase):
    def test_words_that_name_no_hand(self):
        desk = Desk(DOOR)
        desk.say("start 0 0")
        for name in ("none", "", "x", "y", "Opens", "open", "opens:", "0", "1", "opens\n", "count", "opens,counts",
                     "'"):
            for row in ("note {} 0", "may {} 0 0 0", "step {} 0"):
                self.refused(NoName, desk, row.format(name))

    def test_behind_rows_that_are_none(self):
        desk = Desk(DOOR)
        for row in ("note none", "note none x", "note none 00", "may none 0 0", "may none 0 0 x", "step none 0",
                    "step none", "note  ", "may none 0 0 0 0"):
            self.refused(NoRow, desk, row)
        desk.say("start 0 0")
        for row in ("step none x", "step none", "step none 0 0", "step  "):
            self.refused(NoRow, desk, row)

    def test_ahead_of_places_and_stands_that_are_none(self):
        desk = Desk(DOOR)
        for row in ("note none 9", "may none 9 0 0", "may none 0 9 9", "may none 9 9 9", "note  9", "may  9 9 9"):
            self.refused(NoName, desk, row)

    def test_ahead_of_steps_that_do_not_go(self):
        desk = Desk(DOOR)
        desk.say("start 0 0")
        self.refused(NoName, desk, "step none 9")
        self.refused(NoStep, desk, "step opens 9")

    def test_hands_called_like_boxes(self):
        desk = Desk(FREE)
        self.refused(NoName, desk, "note b 0")
        self.assertEqual(answers(desk, "note a 0", "note x 0", "start 0 2", "step x 1", "state"),
                         ["6", "6", "ok", "ok", "0 0 / 0 0 0"])


class TestNoStart(DeskCase):
    def test_starts_that_are_none(self):
        desk = Desk(DOOR)
        for values in ("1 0", "0 1", "1 2", "2 0", "0 3", "9 9", "{0} {0}".format(HUGE), "0 {}".format(HUGE)):
            self.refused(NoStart, desk, "start " + values)
        self.says(desk, "start 0 0", "ok")

    def test_a_begin_that_holds_nowhere(self):
        desk = Desk(NEVER)
        for stand in every_stand([("x", 1), ("y", 2)]):
            self.refused(NoStart, desk, "start {} {}".format(*stand))

    def test_the_weaving_goes_on(self):
        desk = Desk(DOOR)
        answers(desk, "start 0 0", "step opens 0")
        for row, refusal in (("start 1 0", NoStart), ("start 0 x", NoRow), ("start 0", NoRow), ("start 0 3", NoStart)):
            self.refused(refusal, desk, row)
            self.assertEqual(answers(desk, "state", "least"), ["1 0 / 1 0", "opens:0"])
        self.assertEqual(answers(desk, "step counts 0", "state"), ["ok", "1 0 / 1 1"])


class TestNoStep(DeskCase):
    def test_its_place(self):
        desk = Desk(DOOR)
        desk.say("start 0 0")
        self.assertEqual(self.refused(NoStep, desk, "step counts 0").place, 0)
        self.assertEqual(self.refused(NoStep, desk, "step opens 1").place, 0)
        desk.say("step opens 0")
        self.assertEqual(self.refused(NoStep, desk, "step opens 0").place, 1)
        self.assertEqual(self.refused(NoStep, desk, "step opens {}".format(HUGE)).place, 1)
        desk.say("step counts 0")
        self.assertEqual(self.refused(NoStep, desk, "step counts 1").place, 2)
        desk.say("start 0 0")
        self.assertEqual(self.refused(NoStep, desk, "step counts 1").place, 0)

    def test_each_step_that_does_not_go(self):
        for seed in range(40):
            house = house_of(*some_parts(seed))
            names = ["p", "q", "r"][:len(house[2])]
            desk = Desk(shown_house(house, names))
            for start in starts_of(house)[:1]:
                desk.say("start " + " ".join(map(str, start)))
                go = [step for step, state in steps_on(house, (start, (0,) * len(names)))]
                for hand, name in enumerate(names):
                    for way in range(6):
                        if (hand, way) not in go:
                            self.assertEqual(self.refused(NoStep, desk, "step {} {}".format(name, way)).place, 0)


REFUSED = [
    "", "judge ", "state 0", "start 1 0", "start 0", "start 9 9", "step counts 1", "step opens 0", "step none 0",
    "step opens x", "note opens 9", "note none 0", "may opens 0 9 9", "may opens 0 0", "least least", "show x", None,
]


class TestWhatIsRefused(DeskCase):
    def test_changes_nothing(self):
        rows = ["state", "least", "judge", "broken", "states", "stuck", "note opens 1", "may counts 2 0 2", "show"]
        desk = Desk(DOOR)
        answers(desk, "start 0 0", "step opens 0")
        before = answers(desk, *rows)
        for row in REFUSED:
            with self.assertRaises(PromiseError):
                desk.say(row)
            self.assertEqual(answers(desk, *rows), before)
        self.assertEqual(answers(desk, "step counts 0", "least", "state"), ["ok", "opens:0 counts:0", "1 0 / 1 1"])

    def test_begins_nothing(self):
        desk = Desk(DOOR)
        for row in REFUSED + ["step opens 0", "state", "least"]:
            with self.assertRaises(PromiseError):
                desk.say(row)
            self.refused(NoRow, desk, "state")
        self.assertEqual(answers(desk, "start 0 0", "state", "least"), ["ok", "0 0 / 0 0", "nothing"])


class TestTwoDesks(DeskCase):
    def test_of_one_text(self):
        one, other = Desk(FREE), Desk(FREE)
        answers(one, "start 0 0", "step a 0")
        self.refused(NoRow, other, "state")
        answers(other, "start 0 2", "step x 1", "step x 0")
        self.assertEqual(answers(one, "state", "least"), ["1 0 / 0 0 0", "a:0"])
        self.assertEqual(answers(other, "state", "least"), ["0 1 / 0 0 0", "x:1 x:0"])
        one.say("start 0 1")
        self.assertEqual(answers(other, "state", "least"), ["0 1 / 0 0 0", "x:1 x:0"])
        self.assertEqual(answers(one, "state", "least"), ["0 1 / 0 0 0", "nothing"])

    def test_of_two_texts(self):
        one, other = Desk(DOOR), Desk(BROKEN)
        self.assertEqual(answers(one, "judge", "note counts 2"), ["good", "1"])
        self.assertEqual(answers(other, "judge", "note a 0"), ["spoiled a 0 0", "0"])
        self.assertEqual(answers(one, "judge", "note counts 2", "show"), ["good", "1", DOOR])

    def test_lists_told_elsewhere_are_not_the_desk_s(self):
        desk = Desk(DOOR)
        before = answers(desk, "judge", "note counts 2", "show", "start 0 0", "state")
        house, names = read_house(DOOR)
        for one in house[2] + [house[0], house[3], names]:
            one.clear()
        self.assertEqual(answers(desk, "judge", "note counts 2", "show", "start 0 0", "state"), before)
        self.assertEqual(answers(Desk(DOOR), "judge", "note counts 2", "show", "start 0 0", "state"), before)


if __name__ == "__main__":
    unittest.main()
