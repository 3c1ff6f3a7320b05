"""Papers: for each place of a hand the stands in which it may be there, and the look at them."""

from handpromise.conds import holds, stands_of, steps_of
from handpromise.errors import NoPaper
from handpromise.hands import NEXT, behind, row_at
from handpromise.houses import BEGIN, BOXES, HANDS, NOTES, PROMISES, count_places
from handpromise.stands import is_stand


# A hand and what it is held to. Of the other hands it has the promised steps alone, none of their rows.
class Duty:
    def __init__(self, boxes, hand, promise, others, notes):
        self.boxes = boxes
        self.hand = hand
        self.promised = by_stand(promise)
        self.others = [by_stand(steps) for steps in others]
        self.notes = notes

    def noted(self, place, stand):
        return holds(self.notes[place], stand, None)

    # To change nothing is always promised.
    def keeps(self, stand, further):
        return stand == further or further in self.promised.get(stand, [])

    def own_from(self, place, stand):
        found = []
        for number, way in enumerate(row_at(self.hand, place)):
            further = behind(self.boxes, way, stand)
            if further is not None:
                found.append((number, way[NEXT], further))
        return found

    def others_from(self, stand):
        found = []
        for number, steps in enumerate(self.others):
            found.extend([(number, further) for further in steps.get(stand, [])])
        return found


# The stands behind, in their order, by the stand ahead: only the steps from one stand are ever asked for at a time.
def by_stand(steps):
    found = {}
    for stand, further in steps:
        found.setdefault(stand, []).append(further)
    return found


def duties_of(house):
    promised = [steps_of(house[BOXES], promise) for promise in house[PROMISES]]
    found = []
    for number, hand in enumerate(house[HANDS]):
        others = promised[:number] + promised[number + 1:]
        found.append(Duty(house[BOXES], hand, promised[number], others, house[NOTES][number]))
    return found


def looked(boxes, hand, promise, others, notes, begin, paper):
    return look_at(Duty(boxes, hand, promise, others, notes), begin, paper)


def look_house(house, papers):
    if not isinstance(papers, list) or len(papers) != len(house[HANDS]):
        raise NoPaper("the papers of a house are a list with one for each hand")
    for number, duty in enumerate(duties_of(house)):
        found = look_at(duty, house[BEGIN], papers[number])
        if found is not None:
            return (number, found)
    return None


def look_at(duty, begin, paper):
    check_paper(duty, paper)
    for start in stands_of(duty.boxes, begin):
        if start not in paper[0]:
            return ("begin", start)
    for place, listed in enumerate(paper):
        for stand in listed:
            found = break_at(duty, paper, place, stand)
            if found is not None:
                return found
    return None


def check_paper(duty, paper):
    if not isinstance(paper, list) or len(paper) != count_places(duty.hand):
        raise NoPaper("a paper is a list with a list of stands for each place")
    for listed in paper:
        check_listed(duty.boxes, listed)


# What is no stand is out ahead of the order: things of other kinds can't always be compared.
def check_listed(boxes, listed):
    if not isinstance(listed, list) or not all([is_stand(boxes, thing) for thing in listed]):
        raise NoPaper("a paper has a list of stands of the boxes for each place")
    if listed != sorted(set(listed)):
        raise NoPaper("a paper's stands are rising, each once")


def break_at(duty, paper, place, stand):
    if not duty.noted(place, stand):
        return ("note", place, stand)
    for way, next_place, further in duty.own_from(place, stand):
        if further not in paper[next_place]:
            return ("own", place, stand, way)
        if not duty.keeps(stand, further):
            return ("promise", place, stand, way)
    for number, further in duty.others_from(stand):
        if further not in paper[place]:
            return ("other", place, stand, number, further)
    return None
