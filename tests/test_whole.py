"""The promise as a whole: what papers, verdicts, exchanges and trades say of all weavings; and the same at a desk."""

import random
import unittest

from handpromise.desk import Desk
from handpromise.houses import house_of
from handpromise.papers import look_house, looked
from handpromise.programs import comes_to, made
from handpromise.texts import read_house, shown_house
from handpromise.trades import alike, least
from handpromise.verdicts import broken, exchanged, judged
from handpromise.weakest import road, weakest
from handpromise.weave import all_states, ends, woven
from tests.helper import (
    NO, YES, breaks_in, depths_of, every_stand, leads_to_its_break, reckoned, some_hand, some_parts, some_weaving,
    starts_of, tame_parts, task_of, ways_on,
)

HOUSES = [house_of(*(tame_parts(seed) if seed % 5 else some_parts(seed))) for seed in range(400, 600)]


def tasks_of(whole):
    return [task_of(whole, at) for at in range(len(whole[2]))]


def strongest(task, starts):
    # The stands that must be in every paper without breaks: from the starts on, by own ways and the others' steps.
    found = {(0, start) for start in starts}
    ring = set(found)
    while ring:
        on = set()
        for place, stand in ring:
            on |= {(next_place, further) for way, next_place, further in ways_on(task, place, stand)}
            on |= {(place, further) for steps in task[3] for ahead, further in steps if ahead == stand}
        ring = on - found
        found |= ring
    return [sorted(stand for at, stand in found if at == place) for place in range(len(task[1]) + 1)]


def thinned(chance, task, paper):
    # A paper that fits within another one: some stands taken out, and all that then break.
    every = every_stand(task[0])
    paper = [[stand for stand in listed if chance.random() < 0.9] for listed in paper]
    found = looked(*task, NO, paper)
    while found is not None:
        paper[found[1]].remove(found[2])
        found = looked(*task, NO, paper)
    return [[stand for stand in every if stand in listed] for listed in paper]


class TestPapers(unittest.TestCase):
    def holds_in_every_weaving(self, whole, papers):
        for stand, places in depths_of(whole):
            for at, place in enumerate(places):
                self.assertIn(stand, papers[at][place])
                self.assertTrue(reckoned(whole[4][at][place], stand))

    def test_papers_that_the_look_lets_by_hold_in_every_weaving(self):
        chance = random.Random(3)
        let_by = {"weakest": 0, "strongest": 0, "thinned": 0}
        for whole in HOUSES:
            tasks = tasks_of(whole)
            papers = {
                "weakest": [weakest(*task) for task in tasks],
                "strongest": [strongest(task, starts_of(whole)) for task in tasks],
            }
            papers["thinned"] = [thinned(chance, *one) for one in zip(tasks, papers["weakest"])]
            for kind, one in papers.items():
                if look_house(whole, one) is None:
                    let_by[kind] += len(depths_of(whole)) > 1
                    self.holds_in_every_weaving(whole, one)
        self.assertGreater(min(let_by.values()), 10)
        self.assertEqual(let_by["weakest"], let_by["strongest"])

    def test_a_house_is_good_just_where_some_papers_are_let_by(self):
        for whole in HOUSES:
            papers = [strongest(task, starts_of(whole)) for task in tasks_of(whole)]
            self.assertEqual(judged(whole)[0] == "good", look_house(whole, papers) is None)

    def test_each_paper_that_fits_is_within_the_weakest(self):
        chance = random.Random(4)
        for whole in HOUSES[:80]:
            for task in tasks_of(whole):
                most = weakest(*task)
                full = [every_stand(whole[0]) for listed in most]
                for begun in (full, most):
                    fitting = thinned(chance, task, begun)
                    self.assertIsNone(looked(*task, NO, fitting))
                    for listed, all_listed in zip(fitting, most):
                        self.assertLessEqual(set(listed), set(all_listed))

    def test_each_stand_that_the_weakest_lacks_has_a_road(self):
        for whole in HOUSES[:25]:
            for task in tasks_of(whole):
                for place, listed in enumerate(weakest(*task)):
                    for stand in every_stand(whole[0]):
                        told = road(*task, place, stand)
                        self.assertEqual(told is None, stand in listed)
                        self.assertTrue(told is None or leads_to_its_break(task, place, stand, told))


class TestVerdicts(unittest.TestCase):
    def test_a_good_house_has_no_weaving_that_breaks(self):
        good = 0
        for whole in HOUSES:
            if judged(whole)[0] == "good":
                good += 1
                self.assertIsNone(broken(whole))
                self.assertEqual([state for state in depths_of(whole) if breaks_in(whole, state)], [])
        self.assertGreater(good, 30)

    def test_a_weaving_told_breaks_there_and_no_shorter_one_breaks(self):
        for whole in HOUSES:
            told = broken(whole)
            depths = [depth for state, depth in depths_of(whole).items() if breaks_in(whole, state)]
            if told is None:
                self.assertEqual(depths, [])
            else:
                start, steps, ending = told
                self.assertIn(ending, breaks_in(whole, woven(whole, start, steps)[-1]))
                self.assertEqual(len(steps), min(depths))


class TestExchange(unittest.TestCase):
    def test_the_others_papers_stay(self):
        chance = random.Random(5)
        for whole in HOUSES[:100]:
            for at in range(len(whole[2])):
                hand = some_hand(chance, whole[0], 2)
                other = exchanged(whole, at, hand, [YES] * (len(hand) + 1))
                for k in range(len(whole[2])):
                    if k != at:
                        self.assertEqual(task_of(other, k), task_of(whole, k))
                        self.assertEqual(weakest(*task_of(other, k)), weakest(*task_of(whole, k)))

    def test_a_good_house_stays_good_with_a_hand_that_keeps_the_promise(self):
        chance = random.Random(6)
        kept = {True: 0, False: 0}
        for whole in HOUSES:
            told = judged(whole)
            if told[0] == "good":
                for at in range(len(whole[2])):
                    hand = some_hand(chance, whole[0], 2)
                    notes = [YES] * (len(hand) + 1)
                    other = exchanged(whole, at, hand, notes)
                    own = weakest(*task_of(other, at))
                    papers = told[1][:at] + [own] + told[1][at + 1:]
                    keeps = all(start in own[0] for start in starts_of(whole))
                    kept[keeps] += 1
                    self.assertEqual(judged(other)[0] == "good", keeps)
                    found = look_house(other, papers)
                    self.assertEqual(found is None, keeps)
                    self.assertTrue(found is None or found[0] == at)
        self.assertGreater(min(kept.values()), 20)


class TestTrades(unittest.TestCase):
    def test_weavings_alike_have_the_same_least_form_and_the_same_end(self):
        chance = random.Random(7)
        seen = {True: 0, False: 0}
        for whole in HOUSES:
            starts = starts_of(whole)
            if starts:
                one = some_weaving(random.Random(chance.randrange(3)), whole, starts[0], 12)
                other = some_weaving(random.Random(chance.randrange(3)), whole, starts[0], 12)
                same = least(whole, starts[0], one)[0] == least(whole, starts[0], other)[0]
                self.assertIs(alike(whole, starts[0], one, other), same)
                form = least(whole, starts[0], one)[0]
                self.assertIs(alike(whole, starts[0], one, form), True)
                self.assertEqual(woven(whole, starts[0], form)[-1], woven(whole, starts[0], one)[-1])
                seen[same] += 1
        self.assertGreater(min(seen.values()), 20)


# How a house is asked and woven at a desk.

NAMES = ["p", "q", "r"]


def desk_of(whole):
    return Desk(shown_house(whole, NAMES[:len(whole[2])]))


def shown(*numbers):
    return " ".join(map(str, numbers))


def may_rows(state):
    stand, places = state
    return ["may " + shown(name, place, *stand) for name, place in zip(NAMES, places)]


def state_said(desk):
    stand, places = desk.say("state").split(" / ")
    return tuple(map(int, stand.split())), tuple(map(int, places.split()))


class TestDesks(unittest.TestCase):
    def good_houses(self):
        found = [whole for whole in HOUSES if judged(whole)[0] == "good"]
        self.assertGreater(len(found), 30)
        return found

    def test_may_is_yes_in_each_state_of_a_good_house(self):
        for whole in self.good_houses():
            desk = desk_of(whole)
            self.assertEqual((desk.say("judge"), desk.say("broken")), ("good", "no"))
            states = list(depths_of(whole))
            self.assertEqual(desk.say("states"), str(len(states)))
            for state in states:
                self.assertEqual([desk.say(row) for row in may_rows(state)], ["yes"] * len(state[1]))

    def test_a_good_house_is_not_broken_by_what_is_woven(self):
        chance = random.Random(8)
        for whole in self.good_houses():
            desk = desk_of(whole)
            for start in starts_of(whole):
                desk.say("start " + shown(*start))
                for hand, way in some_weaving(chance, whole, start, 15):
                    desk.say("step " + shown(NAMES[hand], way))
                    state = state_said(desk)
                    self.assertEqual(breaks_in(whole, state), [])
                    self.assertEqual([desk.say(row) for row in may_rows(state)], ["yes"] * len(state[1]))
            self.assertEqual(desk.say("broken"), "no")

    def test_a_break_told_is_woven(self):
        seen = {"note": 0, "promise": 0}
        for whole in HOUSES:
            desk = desk_of(whole)
            told = desk.say("broken").split(" ")
            if told != ["no"]:
                self.assertEqual(desk.say("judge").split(" ")[0], "spoiled")
                seen[told[0]] += 1
                at = told.index("from") + 1
                steps = at + len(whole[0])
                self.assertEqual(desk.say("start " + shown(*told[at:steps])), "ok")
                for step in told[steps:]:
                    self.assertEqual(desk.say("step " + step.replace(":", " ")), "ok")
                ending = (told[0], NAMES.index(told[1])) + tuple(map(int, told[2:at - 1]))
                self.assertIn(ending, breaks_in(whole, state_said(desk)))
        self.assertGreater(min(seen.values()), 5)

    def test_spoiled_where_may_is_no(self):
        for whole in HOUSES:
            desk = desk_of(whole)
            lacking = [(name, start) for name in NAMES[:len(whole[2])] for start in starts_of(whole)
                       if desk.say("may " + shown(name, 0, *start)) == "no"]
            told = "spoiled " + shown(lacking[0][0], *lacking[0][1]) if lacking else "good"
            self.assertEqual(desk.say("judge"), told)

    def test_papers_of_a_house_read(self):
        for whole in self.good_houses():
            house, names = read_house(shown_house(whole, NAMES[:len(whole[2])]))
            told = judged(house)
            self.assertEqual(told, judged(whole))
            self.assertIsNone(look_house(house, told[1]))


class TestPrograms(unittest.TestCase):
    def test_the_hand_made_comes_in_a_house_where_the_program_comes(self):
        one, x, y = ("number", 1), ("box", 0), ("box", 1)
        up, down = ("put", ((1, ("plus", y, one)),)), ("put", ((1, ("minus", y, one)),))
        wait = ("wait", ("less", x, y), ((0, y),))
        boxes = [("x", 2), ("y", 2)]
        for program in ([], [up], [up, wait], [("choose", [[up], [down], []]), ("loop", 2, [wait])],
                        [("loop", 2, [("choose", [[up, wait], [down]])])], [wait, wait]):
            hand = made(boxes, program)
            for stand in every_stand(boxes):
                begin = ("both", ("is", x, ("number", stand[0])), ("is", y, ("number", stand[1])))
                whole = house_of(boxes, begin, [hand], [YES], [[YES] * (len(hand) + 1)])
                rows = all_states(whole)
                come = sorted(rows[number][0][0] for number in ends(whole))
                self.assertEqual(comes_to(boxes, program, stand), come)
                self.assertEqual(desk_of(whole).say("judge"), "good")


if __name__ == "__main__":
    unittest.main()
