import copy
import itertools
import random
import unittest

from handpromise.houses import house_of
from handpromise.papers import looked
from handpromise.weakest import road, weakest
from tests.helper import (
    NO, ONE, X, X_AFTER, Y, YES, breaks_of, every_stand, every_step, is_the_askers_own, leads_to_its_break, number, put,
    some_boxes, some_parts, some_task, tame_parts, task_of, up, wait, weakest_by_rounds,
)

# One box; the hand counts up, and waits at its second place for 3; another one takes 3 back to 2.
BOXES = [("x", 3)]
HAND = [[up(0, 1)], [wait(0, 3, 2)]]
RISES = every_step(BOXES, ("less", X, X_AFTER))
OTHERS = [[((3,), (2,))]]
NOTES = [YES, ("less", ONE, X), YES]
TASK = (BOXES, HAND, RISES, OTHERS, NOTES)

FULL = [(0,), (1,), (2,), (3,)]


def every_paper(boxes, places):
    every = every_stand(boxes)
    lists = [list(chosen) for count in range(len(every) + 1) for chosen in itertools.combinations(every, count)]
    return itertools.product(lists, repeat=places)


def spots(task):
    return [(place, stand) for place in range(len(task[1]) + 1) for stand in every_stand(task[0])]


def fits(task, paper):
    return looked(*task, NO, paper) is None


class TestWeakest(unittest.TestCase):
    def told(self, task, expected):
        self.assertEqual(weakest(*task), expected)

    def test_of_a_note(self):
        # From 0 the first way leads to 1, where the second note doesn't hold.
        self.told(TASK, [[(1,), (2,), (3,)], [(2,), (3,)], FULL])

    def test_of_the_others(self):
        falls = [[((3,), (2,))], [((2,), (1,))]]
        self.told((BOXES, HAND, RISES, falls, NOTES), [[], [], FULL])
        self.told((BOXES, HAND, RISES, [[], [((2,), (1,))]], NOTES), [[(3,)], [(3,)], FULL])

    def test_of_the_promise(self):
        self.told((BOXES, HAND, RISES[1:], OTHERS, NOTES), [[(1,), (2,), (3,)], [(2,), (3,)], FULL])
        self.told((BOXES, HAND, [], OTHERS, [YES] * 3), [[], FULL, FULL])
        self.told((BOXES, HAND, [], [], [YES] * 3), [[(3,)], FULL, FULL])

    def test_notes_that_hold_nowhere_and_everywhere(self):
        self.told((BOXES, HAND, RISES, OTHERS, [NO, NO, NO]), [[], [], []])
        self.told((BOXES, HAND, RISES, OTHERS, [YES, YES, YES]), [FULL, FULL, FULL])
        self.told((BOXES, HAND, RISES, OTHERS, [YES, YES, NO]), [[(0,), (1,)], [(0,), (1,), (2,)], []])
        self.told((BOXES, HAND, RISES, OTHERS, [NO, YES, YES]), [[], FULL, FULL])

    def test_promises_of_no_steps_and_of_all(self):
        every = every_step(BOXES, YES)
        self.told((BOXES, [[put(0, 1, 1)]], [], [], [YES, YES]), [[(1,)], FULL])
        self.told((BOXES, [[put(0, 1, 1)]], every, [], [YES, YES]), [FULL, FULL])
        self.told((BOXES, [[put(0, 1, 1)]], every, [every], [YES, NO]), [[], []])
        self.told((BOXES, [[put(0, 1, 1)]], every, [every], [YES, ("less", X, number(3))]), [[], []])
        self.told((BOXES, [[(YES, (), 1)]], [], [every, every], [YES, YES]), [FULL, FULL])

    def test_a_way_that_changes_nothing_is_promised(self):
        self.told((BOXES, [[(YES, (), 0)], [(YES, ((0, X),), 1)]], [], [], [YES] * 3), [FULL, FULL, FULL])

    def test_a_hand_of_no_rows(self):
        self.told((BOXES, [], [], [], [YES]), [FULL])
        self.told((BOXES, [], [], [], [("less", X, ONE)]), [[(0,)]])
        self.told((BOXES, [], [], [[((0,), (2,))]], [("less", X, number(2))]), [[(1,)]])

    def test_a_round_holds_itself(self):
        # Each stand of the round is let by through the others alone: the weakest paper has them, a lesser one need not.
        task = (BOXES, [[(YES, (), 1)], [(YES, (), 0)]], [], [[((0,), (1,)), ((1,), (0,))]], [YES, YES, NO])
        self.told(task, [FULL, FULL, []])

    def test_rows_to_which_no_way_leads(self):
        task = (BOXES, [[(YES, (), 2)], [put(0, 0, 2)]], [], [], [YES] * 3)
        self.told(task, [FULL, [(0,)], FULL])

    def test_of_two_boxes(self):
        boxes = [("x", 1), ("y", 2)]
        hand = [[(("less", X, Y), ((0, ("plus", X, ONE)),), 1)]]
        self.told((boxes, hand, every_step(boxes, YES), [], [YES, ("is", X, Y)]), [
            [(0, 0), (0, 1), (1, 0), (1, 1), (1, 2)], [(0, 0), (1, 1)],
        ])

    def test_kinds(self):
        paper = weakest(*TASK)
        self.assertEqual([type(paper)] + [type(listed) for listed in paper], [list] * 4)
        self.assertEqual({type(stand) for listed in paper for stand in listed}, {tuple})

    def test_it_fits_and_has_all_stands_of_each_paper_that_fits(self):
        chance = random.Random(24)
        seen = set()
        for unused in range(60):
            boxes = chance.choice([[("x", 1)], [("x", 2)], [("x", 1), ("y", 1)]])
            task = some_task(chance, boxes, 2 if len(boxes) == 1 else 1)
            places = len(task[1]) + 1
            fitting = [paper for paper in every_paper(boxes, places) if fits(task, list(paper))]
            told = weakest(*task)
            self.assertIn(tuple(told), fitting)
            self.assertEqual(breaks_of(task, NO, told), [])
            for paper in fitting:
                for place in range(places):
                    self.assertLessEqual(set(paper[place]), set(told[place]))
            seen.add(len(fitting))
        self.assertGreater(len(seen), 10)

    def test_begin_is_not_asked(self):
        paper = weakest(*TASK)
        self.assertEqual(looked(*TASK, YES, paper), ("begin", (0,)))
        self.assertIsNone(looked(*TASK, ("is", X, ONE), paper))

    def test_by_rounds(self):
        chance = random.Random(25)
        for unused in range(300):
            task = some_task(chance, some_boxes(chance), 4)
            self.told(task, weakest_by_rounds(task))

    def test_of_houses(self):
        for seed in range(60):
            whole = house_of(*(tame_parts(seed) if seed % 2 else some_parts(seed)))
            for at in range(len(whole[2])):
                task = task_of(whole, at)
                self.told(task, weakest_by_rounds(task))

    def test_of_twenty_four_stands_and_nine_places(self):
        task = long_task()
        full = every_stand(task[0])
        self.told(task, [[]] * 8 + [full[:-1]])
        self.told(task[:4] + ([YES] * 9,), [full] * 9)
        every = every_step(task[0], YES)
        self.told(task[:2] + (every, [every, every], [YES] * 9), [full] * 9)


def long_task():
    # The hand goes round by all its rows ahead of each count; only behind the very last one its note doesn't hold.
    boxes = [("x", 2), ("y", 7)]
    last = ("both", ("is", X, number(2)), ("is", Y, number(7)))
    hand = [[(YES, (), place + 1)] for place in range(7)]
    hand.append([
        up(1, 0), (("is", Y, number(7)), ((0, ("plus", X, ONE)), (1, number(0))), 0), (last, (), 8),
    ])
    return boxes, hand, every_step(boxes, YES), [], [YES] * 8 + [("not", last)]


class TestRoad(unittest.TestCase):
    def told(self, place, stand, expected, task=TASK):
        self.assertEqual(road(*task, place, stand), expected)

    def test_none(self):
        for place, listed in enumerate(weakest(*TASK)):
            for stand in listed:
                self.told(place, stand, None)

    def test_of_no_steps(self):
        self.told(1, (0,), ([], ("note",)))
        self.told(1, (1,), ([], ("note",)))
        self.told(0, (1,), ([], ("promise", 0)), (BOXES, HAND, [], [], NOTES))
        hand = [[(YES, (), 0), wait(0, 2, 0), put(0, 3, 0), put(0, 1, 0)]]
        self.told(0, (1,), ([], ("promise", 2)), (BOXES, hand, [], [], [YES, YES]))
        self.told(0, (3,), ([], ("promise", 3)), (BOXES, hand, [], [], [YES, YES]))

    def test_by_an_own_step(self):
        self.told(0, (0,), ([("own", 0)], ("note",)))
        hand = [[wait(0, 0, 0), wait(0, 2, 1), (YES, (), 2)], [put(0, 1, 2)]]
        task = (BOXES, hand, [], [], [YES, YES, YES])
        self.told(0, (2,), ([("own", 1)], ("promise", 0)), task)
        self.told(0, (0,), None, task)

    def test_by_another_s_step(self):
        falls = [[((3,), (2,))], [((2,), (1,))]]
        task = (BOXES, HAND, RISES, falls, NOTES)
        self.told(1, (2,), ([("other", 1, (1,))], ("note",)), task)
        self.told(1, (3,), ([("other", 0, (2,)), ("other", 1, (1,))], ("note",)), task)
        self.told(2, (3,), None, task)

    def test_by_steps_of_both(self):
        task = (BOXES, [[wait(0, 2, 1)], [wait(0, 3, 2)]], [], [[((0,), (2,)), ((2,), (3,))]], [YES, YES, NO])
        self.told(0, (0,), ([("other", 0, (2,)), ("own", 0), ("other", 0, (3,)), ("own", 0)], ("note",)), task)
        self.told(0, (1,), None, task)

    def test_a_step_of_one_other_not_of_the_next(self):
        for at in range(2):
            others = [[], []]
            others[at] = [((0,), (3,))]
            task = (BOXES, [], [], others, [("less", X, number(3))])
            self.told(0, (0,), ([("other", at, (3,))], ("note",)), task)

    def test_kinds(self):
        told = road(*TASK, 0, (0,))
        self.assertEqual([type(one) for one in (told,) + told], [tuple, list, tuple])
        self.assertEqual([type(step) for step in told[0]], [tuple])

    def test_from_each_spot_that_the_weakest_paper_lacks(self):
        chance = random.Random(26)
        lengths = {}
        endings = {}
        for unused in range(120):
            task = some_task(chance, some_boxes(chance), 4)
            paper = weakest_by_rounds(task)
            for place, stand in spots(task):
                told = road(*task, place, stand)
                self.assertEqual(told is None, stand in paper[place])
                if told is not None:
                    self.assertTrue(leads_to_its_break(task, place, stand, told), (task, place, stand, told))
                    lengths[len(told[0])] = lengths.get(len(told[0]), 0) + 1
                    endings[told[1][0]] = endings.get(told[1][0], 0) + 1
        self.assertGreater(lengths[3], 10)
        self.assertGreater(min(endings["note"], endings["promise"]), 100)

    def test_of_houses(self):
        for seed in range(30):
            whole = house_of(*(tame_parts(seed) if seed % 2 else some_parts(seed)))
            for at in range(len(whole[2])):
                task = task_of(whole, at)
                paper = weakest(*task)
                for place, stand in spots(task):
                    told = road(*task, place, stand)
                    self.assertEqual(told is None, stand in paper[place])
                    self.assertTrue(told is None or leads_to_its_break(task, place, stand, told))

    def test_of_many_steps(self):
        task = long_task()
        told = road(*task, 0, (0, 0))
        self.assertTrue(leads_to_its_break(task, 0, (0, 0), told))
        # Twenty-three counts, each behind a round of eight places, and the way to the end behind the last one.
        self.assertEqual(len(told[0]), 24 * 8)
        self.assertLess(len(told[0]), 9 * 24)

    def test_a_road_that_is_no_road_is_seen(self):
        # The look at the roads above would see one that can't be gone, or that ends elsewhere.
        for place, stand, told in (
            (0, (0,), ([], ("note",))), (0, (0,), ([("own", 1)], ("note",))), (0, (0,), ([("own", 0)], ("promise", 0))),
            (1, (3,), ([("own", 0)], ("note",))), (1, (2,), ([("other", 0, (1,))], ("note",))),
            (1, (3,), ([("other", 0, (2,))], ("note",))), (0, (0,), ([("own", 0)] + [("own", 0)], ("note",))),
        ):
            self.assertFalse(leads_to_its_break(TASK, place, stand, told))


class TestWeakestPapersAreTheAskersOwn(unittest.TestCase):
    def test_weakest(self):
        is_the_askers_own(self, weakest, *TASK)
        is_the_askers_own(self, weakest, BOXES, [], [], [], [YES])
        is_the_askers_own(self, weakest, BOXES, HAND, RISES, OTHERS, [NO, NO, NO])
        is_the_askers_own(self, weakest, BOXES, HAND, RISES, OTHERS, [YES, YES, YES])

    def test_road(self):
        for place, stand in spots(TASK):
            is_the_askers_own(self, road, *TASK, place, stand)

    def test_one_list_in_many_places(self):
        every = every_step(BOXES, YES)
        row = [up(0, 2)]
        told = weakest(BOXES, [row, row], every, [every, every], [YES, YES, YES])
        self.assertEqual(told, [FULL, FULL, FULL])
        told[0].append("spoiled")
        self.assertEqual(told[1:], [FULL, FULL])
        self.assertEqual(every, every_step(BOXES, YES))

    def test_a_paper_told_can_be_looked_at(self):
        task = copy.deepcopy(TASK)
        paper = weakest(*task)
        self.assertTrue(fits(task, paper))
        paper[2].pop()
        self.assertFalse(fits(task, paper))
        self.assertTrue(fits(task, weakest(*task)))


if __name__ == "__main__":
    unittest.main()
