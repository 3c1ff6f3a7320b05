"""Verdicts on a house: good by its weakest papers, or spoiled; broken by a weaving; and a hand exchanged."""

from handpromise.conds import holds, stands_of
from handpromise.houses import BEGIN, BOXES, HANDS, NOTES, PROMISES, house_of
from handpromise.papers import duties_of
from handpromise.weakest import road_from, weakest_paper
from handpromise.weave import all_states, goings, weaving_to


def judged(house):
    starts = stands_of(house[BOXES], house[BEGIN])
    papers = []
    for number, duty in enumerate(duties_of(house)):
        paper = weakest_paper(duty)
        lacking = [start for start in starts if start not in paper[0]]
        if lacking:
            return ("spoiled", number, lacking[0], road_from(duty, 0, lacking[0]))
        papers.append(paper)
    return ("good", papers)


def broken(house):
    rows = all_states(house)
    for number, row in enumerate(rows):
        found = break_in(house, row[0])
        if found is not None:
            weaving = weaving_to(rows, number)
            return (weaving[0], weaving[1], found)
    return None


def break_in(house, state):
    stand = state[0]
    for hand, place in enumerate(state[1]):
        if not holds(house[NOTES][hand][place], stand, None):
            return ("note", hand)
    for step, further in goings(house, state):
        if not keeps_promise(house, step[0], stand, further[0]):
            return ("promise", step[0], step[1])
    return None


# To change nothing is always promised.
def keeps_promise(house, hand, stand, further):
    return stand == further or holds(house[PROMISES][hand], stand, further)


def exchanged(house, number, hand, notes):
    hands = list(house[HANDS])
    hands[number] = hand
    every_note = list(house[NOTES])
    every_note[number] = notes
    return house_of(house[BOXES], house[BEGIN], hands, house[PROMISES], every_note)
