import copy
import itertools
import random
import re
import unittest

from handpromise.errors import NoStart, NoStep, PromiseError
from handpromise.houses import house_of
from handpromise.trades import alike, apart, least, traded, tracks
from handpromise.weave import woven
from tests.helper import (
    HUGE, NO, ONE, OTHER_KINDS, X, Y, YES, deep_kinds, is_the_askers_own, number, put, some_parts, some_weaving,
    starts_of, tame_parts, text_of, up, wait,
)

NOUGHT = number(0)
Z = ("box", 2)
BOXES = [("x", 1), ("y", 1), ("z", 1)]
BEGIN = ("is", ("plus", X, ("plus", Y, Z)), NOUGHT)


def house(hands, begin=BEGIN, boxes=BOXES):
    return house_of(boxes, begin, hands, [YES] * len(hands), [[YES] * (len(hand) + 1) for hand in hands])


def turn(box):
    # Puts the box to 1, or back to 0.
    return [[(("is", ("box", box), NOUGHT), ((box, ONE),), 0), (("is", ("box", box), ONE), ((box, NOUGHT),), 0)]]


# Each hand has a box of its own.
OWN = house([turn(0), turn(1), turn(2)])
# All hands turn the same box.
SAME = house([turn(1), turn(1), turn(1)])
# The first hand opens x and then y; the second one waits for x and puts z; the third stays, or puts y.
DOOR = house([[[put(0, 1, 1)], [put(1, 1, 2)]], [[wait(0, 1, 1)], [up(2, 2)]], [[(YES, (), 0), put(1, 0, 1)]]])


# What is promised of trades, once more.

def tracks_of(whole, start, steps):
    states = woven(whole, start, steps)
    return [(hand, states[at][1][hand], way) for at, (hand, way) in enumerate(steps)]


def read_and_written(whole, track):
    hand, place, way = track
    guard, puts, unused = whole[2][hand][place][way]
    texts = [text_of(guard)] + [text_of(one) for box, one in puts]
    return {int(k) for k in re.findall(r"ahead\[(\d+)\]", " ".join(texts))}, {box for box, one in puts}


def are_apart(whole, one, other):
    reads, writes = read_and_written(whole, one)
    other_reads, other_writes = read_and_written(whole, other)
    touching = writes & other_reads | writes & other_writes | other_writes & reads
    return one[0] != other[0] and not touching


def trades_from(whole, start, steps):
    # Each list to which one trade leads, by its place.
    told = tracks_of(whole, start, list(steps))
    found = {}
    for at in range(len(steps) - 1):
        if are_apart(whole, told[at], told[at + 1]):
            found[at] = steps[:at] + (steps[at + 1], steps[at]) + steps[at + 2:]
    return found


def all_traded(whole, start, steps):
    # All lists to which trades lead, one after another.
    known = {tuple(steps)}
    ring = set(known)
    while ring:
        ring = {one for steps in ring for one in trades_from(whole, start, steps).values()} - known
        known |= ring
    return known


def some_houses():
    parts = [tame_parts(seed) if seed % 3 else some_parts(seed) for seed in range(150)]
    houses = [house_of(*things) for things in parts] + [OWN, SAME, DOOR]
    return [whole for whole in houses if starts_of(whole)]


HOUSES = some_houses()


class Trades(unittest.TestCase):
    def no_start(self, tell, *things):
        with self.assertRaises(PromiseError) as caught:
            tell(*things)
        self.assertIs(type(caught.exception), NoStart)

    def no_step(self, place, tell, *things):
        with self.assertRaises(PromiseError) as caught:
            tell(*things)
        self.assertIs(type(caught.exception), NoStep)
        self.assertEqual(caught.exception.place, place)


class TestTracks(Trades):
    def test_of_no_steps(self):
        for whole in (OWN, SAME, DOOR):
            self.assertEqual(tracks(whole, (0, 0, 0), []), [])

    def test_of_some(self):
        steps = [(0, 0), (1, 0), (2, 0), (0, 0), (2, 1), (1, 0)]
        self.assertEqual(
            tracks(DOOR, (0, 0, 0), steps), [(0, 0, 0), (1, 0, 0), (2, 0, 0), (0, 1, 0), (2, 0, 1), (1, 1, 0)],
        )

    def test_of_a_hand_that_goes_back(self):
        whole = house([[[(YES, (), 2)], [(YES, (), 0)], [(YES, (), 1), (YES, (), 2), (YES, (), 3)]]])
        self.assertEqual(
            tracks(whole, (0, 0, 0), [(0, 0), (0, 1), (0, 0), (0, 0), (0, 0), (0, 2)]),
            [(0, 0, 0), (0, 2, 1), (0, 2, 0), (0, 1, 0), (0, 0, 0), (0, 2, 2)],
        )

    def test_of_sixty_and_of_a_hundred(self):
        for count in (60, 100):
            steps = [(k % 3, k // 3 % 2) for k in range(count)]
            self.assertEqual(tracks(OWN, (0, 0, 0), steps), [(hand, 0, way) for hand, way in steps])

    def test_by_chance(self):
        chance = random.Random(29)
        for whole in HOUSES:
            start = chance.choice(starts_of(whole))
            steps = some_weaving(chance, whole, start, 30)
            self.assertEqual(tracks(whole, start, steps), tracks_of(whole, start, steps))

    def test_kinds(self):
        told = tracks(DOOR, (0, 0, 0), [(0, 0), (1, 0)])
        self.assertEqual([type(told)] + [type(one) for one in told], [list, tuple, tuple])


# The first hand has a row with one way for each of these; the second one a row with one way that reads or writes y.
FIRST = [
    (YES, (), 0), (("is", X, NOUGHT), (), 0), (YES, ((0, ONE),), 0), (YES, ((0, Z),), 0), (("is", Y, NOUGHT), (), 0),
    (YES, ((0, Y),), 0), (YES, ((1, ONE),), 0), (YES, ((1, X), (2, Z)), 0),
]
FIRST_HAND = [FIRST[:4], FIRST[4:]]
READS_Y = [[(("is", Y, ONE), (), 0)]]
READS_Y_IN_A_SUM = [[(YES, ((2, ("minus", ONE, Y)),), 0)]]
WRITES_Y = [[(YES, ((1, ONE),), 0)]]


class TestApart(Trades):
    def told(self, whole, one, other, expected):
        self.assertIs(apart(whole, one, other), expected)
        self.assertIs(apart(whole, other, one), expected)

    def against(self, second, expected):
        whole = house([FIRST_HAND, second])
        for number_of_way, is_so in enumerate(expected):
            self.told(whole, (0, number_of_way // 4, number_of_way % 4), (1, 0, 0), is_so)

    def test_one_hand(self):
        whole = house([[[(YES, (), 0), wait(0, 0, 1)], [(YES, (), 2)]]])
        for one, other in itertools.product([(0, 0, 0), (0, 0, 1), (0, 1, 0)], repeat=2):
            self.told(whole, one, other, False)

    def test_one_writes_what_the_other_reads_in_its_guard(self):
        self.against(READS_Y, [True, True, True, True, True, True, False, False])

    def test_one_writes_what_the_other_reads_in_a_sum(self):
        # Of these two ways write y; one reads z, which is written too; the last one writes z and y.
        self.against(READS_Y_IN_A_SUM, [True, True, True, False, True, True, False, False])

    def test_one_writes_what_the_other_writes_or_reads(self):
        self.against(WRITES_Y, [True, True, True, True, False, False, False, False])

    def test_both_write_one_box_and_read_nothing(self):
        whole = house([[[put(0, 1, 0)]], [[put(0, 1, 0), put(1, 1, 0)]]])
        self.told(whole, (0, 0, 0), (1, 0, 0), False)
        self.told(whole, (0, 0, 0), (1, 0, 1), True)

    def test_both_read_one_box(self):
        whole = house([[[wait(0, 0, 0)]], [[wait(0, 0, 0), (YES, ((1, X),), 0)]]])
        self.told(whole, (0, 0, 0), (1, 0, 0), True)
        self.told(whole, (0, 0, 0), (1, 0, 1), True)

    def test_the_last_of_several_boxes(self):
        writes = [[(YES, ((0, ONE), (1, ONE)), 0)]]
        self.told(house([writes, [[(YES, ((1, ONE), (2, ONE)), 0)]]]), (0, 0, 0), (1, 0, 0), False)
        self.told(house([writes, [[(YES, ((2, ("plus", Z, Y)),), 0)]]]), (0, 0, 0), (1, 0, 0), False)
        self.told(house([writes, [[(YES, ((2, Z),), 0)]]]), (0, 0, 0), (1, 0, 0), True)

    def test_each_two_of_three_hands(self):
        for one, other in itertools.product(range(3), repeat=2):
            self.told(OWN, (one, 0, 0), (other, 0, 1), one != other)
            self.told(SAME, (one, 0, 0), (other, 0, 1), False)

    def test_of_whichever_places(self):
        self.told(DOOR, (0, 0, 0), (1, 0, 0), False)
        self.told(DOOR, (0, 1, 0), (1, 0, 0), True)
        self.told(DOOR, (0, 1, 0), (2, 0, 1), False)
        self.told(DOOR, (0, 1, 0), (2, 0, 0), True)
        self.told(DOOR, (0, 0, 0), (1, 1, 0), True)

    def test_by_chance(self):
        seen = {True: 0, False: 0}
        for whole in HOUSES:
            hands = whole[2]
            every = [(k, place, way) for k in range(len(hands)) for place in range(len(hands[k]))
                     for way in range(len(hands[k][place]))]
            for one, other in itertools.product(every, repeat=2):
                expected = are_apart(whole, one, other)
                self.assertIs(apart(whole, one, other), expected)
                seen[expected] += one[0] != other[0]
        self.assertGreater(min(seen.values()), 300)


class TestTraded(Trades):
    STEPS = [(0, 0), (2, 0), (0, 0), (1, 0), (1, 0)]

    def told(self, at, expected, steps=None, whole=DOOR):
        self.assertEqual(traded(whole, (0, 0, 0), list(self.STEPS if steps is None else steps), at), expected)

    def test_at_each_place(self):
        self.told(0, [(2, 0), (0, 0), (0, 0), (1, 0), (1, 0)])
        self.told(1, [(0, 0), (0, 0), (2, 0), (1, 0), (1, 0)])
        self.told(2, [(0, 0), (2, 0), (1, 0), (0, 0), (1, 0)])
        self.told(3, None)

    def test_the_first_two_and_the_last_two(self):
        self.told(0, [(1, 0), (0, 0)], [(0, 0), (1, 0)], OWN)
        self.told(0, [(1, 0), (0, 0), (2, 0)], [(0, 0), (1, 0), (2, 0)], OWN)
        self.told(1, [(0, 0), (2, 0), (1, 0)], [(0, 0), (1, 0), (2, 0)], OWN)

    def test_below_0_at_the_last_step_and_beyond(self):
        for at in (-1, -2, -4, -5, -6, 4, 5, 6, 99, HUGE, -HUGE):
            self.told(at, None)
            self.told(at, None, [(0, 0), (1, 0), (2, 0)], OWN)

    def test_of_no_steps_and_of_one(self):
        for at in (-2, -1, 0, 1, 2, HUGE):
            self.told(at, None, [])
            self.told(at, None, [(0, 0)])

    def test_not_apart(self):
        self.told(0, None, [(0, 0), (1, 0)])
        self.told(0, None, [(0, 0), (1, 1)], SAME)
        self.told(0, None, [(1, 0), (1, 1)], OWN)
        for at in range(3):
            self.told(at, None, [(0, 0), (0, 1), (0, 0), (0, 1)], OWN)

    def test_not_apart_though_both_orders_go(self):
        whole = house([[[put(0, 1, 1)]], [[put(0, 1, 1)]]])
        self.told(0, None, [(0, 0), (1, 0)], whole)
        self.assertEqual(len(woven(whole, (0, 0, 0), [(1, 0), (0, 0)])), 3)

    def test_the_weaving_told_goes_with_the_same_states_but_one(self):
        chance = random.Random(30)
        seen = {True: 0, False: 0}
        for whole in HOUSES:
            start = chance.choice(starts_of(whole))
            steps = some_weaving(chance, whole, start, 20)
            states = woven(whole, start, steps)
            expected = trades_from(whole, start, tuple(steps))
            for at in range(-3, len(steps) + 3):
                told = traded(whole, start, steps, at)
                self.assertEqual(told, list(expected[at]) if at in expected else None)
                if told is not None:
                    others = woven(whole, start, told)
                    self.assertEqual(others[:at + 1] + others[at + 2:], states[:at + 1] + states[at + 2:])
                    self.assertEqual(traded(whole, start, told, at), steps)
                seen[told is None] += 1
        self.assertGreater(min(seen.values()), 100)

    def test_sixty_steps(self):
        steps = [(k % 3, k // 3 % 2) for k in range(60)]
        for at in range(59):
            told = traded(OWN, (0, 0, 0), steps, at)
            self.assertEqual(told, steps[:at] + [steps[at + 1], steps[at]] + steps[at + 2:])
        self.assertIsNone(traded(OWN, (0, 0, 0), steps, 59))


def shuffled(chance, whole, start, steps, count):
    # A weaving to which some trades lead.
    for unused in range(count):
        found = list(trades_from(whole, start, tuple(steps)).values())
        steps = list(chance.choice(found)) if found else steps
    return steps


class TestLeast(Trades):
    def leads_there(self, whole, start, steps, told):
        form, trades = told
        self.assertLessEqual(len(trades), len(steps) * (len(steps) - 1) // 2)
        rows = list(zip(steps, tracks_of(whole, start, steps)))
        for at in trades:
            self.assertIn(at, range(len(rows) - 1))
            self.assertTrue(are_apart(whole, rows[at][1], rows[at + 1][1]))
            rows[at], rows[at + 1] = rows[at + 1], rows[at]
        self.assertEqual([step for step, track in rows], form)
        self.assertEqual([track for step, track in rows], tracks_of(whole, start, form))

    def told(self, whole, steps, expected):
        told = least(whole, (0, 0, 0), steps)
        self.assertEqual(told[0], expected)
        self.leads_there(whole, (0, 0, 0), steps, told)

    def test_no_steps_at_all(self):
        for whole in (OWN, SAME, DOOR):
            self.assertEqual(least(whole, (0, 0, 0), []), ([], []))

    def test_one_step(self):
        self.assertEqual(least(OWN, (0, 0, 0), [(1, 0)]), ([(1, 0)], []))

    def test_two_steps(self):
        self.assertEqual(least(OWN, (0, 0, 0), [(1, 0), (0, 0)]), ([(0, 0), (1, 0)], [0]))
        self.assertEqual(least(OWN, (0, 0, 0), [(0, 0), (1, 0)]), ([(0, 0), (1, 0)], []))
        self.assertEqual(least(SAME, (0, 0, 0), [(1, 0), (0, 1)]), ([(1, 0), (0, 1)], []))

    def test_all_apart(self):
        self.told(OWN, [(2, 0), (1, 0), (0, 0), (2, 1), (0, 1), (1, 1)],
                  [(0, 0), (0, 1), (1, 0), (1, 1), (2, 0), (2, 1)])

    def test_the_hand_s_own_order_stays(self):
        # The second hand's ways come in falling order.
        whole = house([turn(0), [[put(1, 1, 0), put(1, 0, 0), put(1, 1, 0)]]])
        self.told(whole, [(1, 2), (1, 1), (0, 0), (1, 0), (0, 1)], [(0, 0), (0, 1), (1, 2), (1, 1), (1, 0)])

    def test_none_apart(self):
        steps = [(2, 0), (1, 1), (0, 0), (1, 1)]
        self.assertEqual(least(SAME, (0, 0, 0), steps), (steps, []))

    def test_a_step_held_back(self):
        # The second hand waits for the first one's step, so this comes ahead of it; the third one's can go anywhere.
        self.told(DOOR, [(2, 0), (0, 0), (1, 0), (0, 0)], [(0, 0), (0, 0), (1, 0), (2, 0)])
        self.told(DOOR, [(0, 0), (1, 0), (2, 1), (0, 0)], [(0, 0), (1, 0), (2, 1), (0, 0)])

    def test_a_step_held_back_through_another_one(self):
        # Hands 0 and 2 are apart, but hand 1 is apart from neither: what stands behind it stays there.
        whole = house([[[put(0, 1, 0)]], [[(("is", X, Z), (), 0), (YES, (), 0)]], [[put(2, 1, 0)]]])
        self.told(whole, [(2, 0), (0, 0)], [(0, 0), (2, 0)])
        self.told(whole, [(2, 0), (1, 1), (0, 0)], [(0, 0), (1, 1), (2, 0)])
        self.told(house(whole[2], YES), [(1, 0), (2, 0), (0, 0)], [(1, 0), (0, 0), (2, 0)])
        both = house([whole[2][0], [[(YES, ((0, NOUGHT), (2, NOUGHT)), 0)]], whole[2][2]])
        self.told(both, [(2, 0), (1, 0), (0, 0)], [(2, 0), (1, 0), (0, 0)])
        self.told(both, [(2, 0), (0, 0), (1, 0), (2, 0), (0, 0)], [(0, 0), (2, 0), (1, 0), (0, 0), (2, 0)])

    def test_the_first_in_order_is_not_the_one_of_the_fewest_turns(self):
        # Only behind (1, 1) and (1, 0) can the first hand go: the least step that is free is taken, not the least.
        whole = house([[[wait(1, 1, 1)]], [[put(2, 1, 0), put(1, 1, 0)]], [[wait(0, 0, 0)]]])
        self.told(whole, [(2, 0), (1, 1), (2, 0), (0, 0), (1, 0)], [(1, 1), (0, 0), (1, 0), (2, 0), (2, 0)])

    def test_as_all_lists_to_which_trades_lead(self):
        chance = random.Random(31)
        sizes = set()
        for whole in HOUSES:
            start = chance.choice(starts_of(whole))
            steps = some_weaving(chance, whole, start, 7)
            known = all_traded(whole, start, steps)
            told = least(whole, start, steps)
            self.assertEqual(told[0], list(min(known)))
            self.leads_there(whole, start, steps, told)
            for at in told[1]:
                steps = traded(whole, start, steps, at)
            self.assertEqual(steps, told[0])
            for one in sorted(known)[:20]:
                self.assertEqual(least(whole, start, list(one))[0], told[0])
            sizes.add(len(known))
        self.assertGreater(len(sizes), 10)

    def test_of_longer_weavings(self):
        chance = random.Random(32)
        for whole in HOUSES[::3]:
            start = chance.choice(starts_of(whole))
            steps = some_weaving(chance, whole, start, 30)
            told = least(whole, start, steps)
            self.leads_there(whole, start, steps, told)
            other = shuffled(chance, whole, start, steps, 60)
            self.assertEqual(least(whole, start, other)[0], told[0])
            self.assertEqual(least(whole, start, told[0]), (told[0], []))

    def test_sixty_steps(self):
        steps = [(2 - k // 20, k % 2) for k in range(60)]
        told = least(OWN, (0, 0, 0), steps)
        self.assertEqual(told[0], steps[40:] + steps[20:40] + steps[:20])
        self.leads_there(OWN, (0, 0, 0), steps, told)
        self.assertEqual(len(told[1]), 3 * 20 * 20)
        steps = [(k % 3, k // 3 % 2) for k in range(60)]
        self.told(OWN, steps, [(hand, k % 2) for hand in range(3) for k in range(20)])
        steps = [((7 * k + k // 4) % 3, k % 2) for k in range(60)]
        self.assertEqual(least(SAME, (0, 0, 0), steps), (steps, []))

    def test_sixty_steps_by_ways_of_forty_parts(self):
        # Each hand's guard reads its own box over and over.
        hands = []
        for box in range(3):
            guard = ("yes",)
            for unused in range(9):
                guard = ("both", guard, ("less", ("box", box), number(9)))
            hands.append([[(guard, way[1], way[2]) for way in (put(box, 1, 0), put(box, 0, 0))]])
        steps = [(2 - k % 3, k % 2) for k in range(60)]
        expected = [step for hand in range(3) for step in steps if step[0] == hand]
        self.told(house(hands), steps, expected)

    def test_kinds(self):
        told = least(OWN, (0, 0, 0), [(2, 0), (1, 0), (0, 0)])
        self.assertEqual([type(one) for one in (told,) + told], [tuple, list, list])
        self.assertEqual({type(step) for step in told[0]}, {tuple})
        self.assertEqual({type(at) for at in told[1]}, {int})


class TestAlike(Trades):
    def told(self, whole, one, other, expected):
        self.assertIs(alike(whole, (0, 0, 0), one, other), expected)
        self.assertIs(alike(whole, (0, 0, 0), other, one), expected)

    def test_alike(self):
        self.told(OWN, [], [], True)
        self.told(OWN, [(0, 0)], [(0, 0)], True)
        self.told(SAME, [(0, 0), (1, 1)], [(0, 0), (1, 1)], True)
        self.told(OWN, [(0, 0), (1, 0)], [(1, 0), (0, 0)], True)
        self.told(OWN, [(0, 0), (1, 0), (0, 1), (2, 0)], [(2, 0), (1, 0), (0, 0), (0, 1)], True)
        self.told(DOOR, [(0, 0), (1, 0), (0, 0), (1, 0)], [(0, 0), (0, 0), (1, 0), (1, 0)], True)

    def test_not_alike(self):
        self.told(OWN, [], [(0, 0)], False)
        self.told(OWN, [(0, 0)], [(1, 0)], False)
        self.told(OWN, [(0, 0), (0, 1)], [(0, 0)], False)
        self.told(SAME, [(0, 0), (1, 1)], [(1, 0), (0, 1)], False)
        self.told(OWN, [(0, 0), (1, 0), (0, 1)], [(0, 0), (1, 0), (1, 1)], False)

    def test_not_alike_though_of_the_same_steps(self):
        whole = house([[[put(0, 1, 1)]], [[(YES, ((0, ONE),), 1)]], [[(YES, (), 1)]]])
        self.told(whole, [(0, 0), (1, 0)], [(1, 0), (0, 0)], False)
        self.told(whole, [(0, 0), (1, 0), (2, 0)], [(2, 0), (1, 0), (0, 0)], False)
        self.told(whole, [(0, 0), (1, 0), (2, 0)], [(2, 0), (0, 0), (1, 0)], True)

    def test_just_where_trades_lead_from_one_to_the_other(self):
        chance = random.Random(33)
        seen = {True: 0, False: 0}
        for whole in HOUSES:
            start = chance.choice(starts_of(whole))
            steps = some_weaving(chance, whole, start, 6)
            known = all_traded(whole, start, steps)
            for order in itertools.islice(itertools.permutations(steps), 0, None, 7):
                try:
                    woven(whole, start, list(order))
                except NoStep:
                    continue
                expected = order in known
                self.assertIs(alike(whole, start, steps, list(order)), expected)
                seen[expected] += list(order) != steps
        self.assertGreater(min(seen.values()), 100)

    def test_of_sixty_steps(self):
        steps = [(k % 3, k // 3 % 2) for k in range(60)]
        other = [(hand, k % 2) for hand in (1, 0, 2) for k in range(20)]
        self.told(OWN, steps, other, True)
        self.told(OWN, steps, other[:-1], False)
        self.told(OWN, steps[:-1], other[:-1], True)


class TestRefusals(Trades):
    TELLS = (
        tracks, least, lambda whole, start, steps: traded(whole, start, steps, 0),
        lambda whole, start, steps: traded(whole, start, steps, -1),
        lambda whole, start, steps: traded(whole, start, steps, HUGE),
        lambda whole, start, steps: alike(whole, start, steps, []),
        lambda whole, start, steps: alike(whole, start, [], steps),
        lambda whole, start, steps: alike(whole, start, steps, steps),
    )

    def test_no_start(self):
        others = [(), (0, 0), (0, 0, 0, 0), [0, 0, 0], (0, 0, 2), (0, 0, -1), (HUGE, 0, 0), (False, 0, 0), (0, 0, 0.0)]
        for tell in self.TELLS:
            for start in OTHER_KINDS + others + deep_kinds():
                for steps in ([], [(0, 0)], [(9, 9)]):
                    self.no_start(tell, OWN, start, steps)

    def test_a_start_at_which_begin_does_not_hold(self):
        for tell in self.TELLS:
            for start in ((1, 0, 0), (0, 0, 1), (1, 1, 1)):
                for steps in ([], [(0, 0)], [(0, 1)], [(9, 9)]):
                    self.no_start(tell, OWN, start, steps)
            self.no_start(tell, house([turn(0)], NO), (0, 0, 0), [])

    def test_no_step(self):
        for tell in self.TELLS:
            for step in ((0, 1), (0, 2), (3, 0), (-1, 0), (0, -1), (HUGE, 0), (0, HUGE), (-HUGE, -HUGE)):
                self.no_step(0, tell, OWN, (0, 0, 0), [step])
                self.no_step(2, tell, OWN, (0, 0, 0), [(1, 0), (2, 0), step])
                self.no_step(1, tell, OWN, (0, 0, 0), [(1, 0), step, (2, 0), (7, 7)])
            self.no_step(59, tell, OWN, (0, 0, 0), [(k % 3, k // 3 % 2) for k in range(59)] + [(2, 2)])

    def test_the_first_weaving_first(self):
        good, early, late = [(0, 0), (0, 1)], [(0, 1), (0, 0)], [(0, 0), (1, 0), (1, 0)]
        for one, other, place in ((early, late, 0), (late, early, 2), (good, late, 2), (good, early, 0),
                                  (late, good, 2), (early, good, 0), ([], late, 2), (late, [], 2)):
            self.no_step(place, alike, OWN, (0, 0, 0), one, other)

    def test_what_is_refused_stays_and_changes_no_later_answer(self):
        whole = copy.deepcopy(OWN)
        for tell in self.TELLS:
            steps = [(1, 0), (0, 0), (9, 9)]
            self.no_step(2, tell, whole, (0, 0, 0), steps)
            self.assertEqual((whole, steps), (OWN, [(1, 0), (0, 0), (9, 9)]))
        self.assertEqual(least(whole, (0, 0, 0), steps[:2]), ([(0, 0), (1, 0)], [0]))


class TestTradesAreTheAskersOwn(Trades):
    def test_each(self):
        steps = [(1, 0), (0, 0), (2, 0)]
        for handed in (steps, [], [(0, 0), (1, 0)]):
            is_the_askers_own(self, tracks, OWN, (0, 0, 0), handed)
            is_the_askers_own(self, least, OWN, (0, 0, 0), handed)
            is_the_askers_own(self, alike, OWN, (0, 0, 0), handed, steps)
            for at in range(-1, 3):
                is_the_askers_own(self, traded, OWN, (0, 0, 0), handed, at)
        is_the_askers_own(self, apart, OWN, (0, 0, 0), (1, 0, 0))

    def test_one_list_for_both_weavings(self):
        steps = [(1, 0), (0, 0)]
        self.assertIs(alike(OWN, (0, 0, 0), steps, steps), True)
        self.assertEqual(steps, [(1, 0), (0, 0)])

    def test_the_least_form_is_another_list(self):
        steps = [(0, 0), (1, 0)]
        told = least(OWN, (0, 0, 0), steps)
        self.assertEqual(told[0], steps)
        self.assertIsNot(told[0], steps)


if __name__ == "__main__":
    unittest.main()
