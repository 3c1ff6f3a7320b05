"""Weakest papers: all stands from which no road leads to a break; and the roads from the others.

A spot is a place of the hand and a stand."""

from handpromise.houses import count_places
from handpromise.papers import Duty
from handpromise.stands import stands


def weakest(boxes, hand, promise, others, notes):
    return weakest_paper(Duty(boxes, hand, promise, others, notes))


def road(boxes, hand, promise, others, notes, place, stand):
    return road_from(Duty(boxes, hand, promise, others, notes), place, stand)


def weakest_paper(duty):
    breaks = breaks_of(duty)
    onward = onward_to(duty, breaks)
    paper = [[] for place in range(count_places(duty.hand))]
    for spot in spots_of(duty):
        if spot not in breaks and spot not in onward:
            paper[spot[0]].append(spot[1])
    return paper


def road_from(duty, place, stand):
    breaks = breaks_of(duty)
    onward = onward_to(duty, breaks)
    steps = []
    spot = (place, stand)
    while spot in onward:
        steps.append(onward[spot][0])
        spot = onward[spot][1]
    return (steps, breaks[spot]) if spot in breaks else None


def spots_of(duty):
    every = stands(duty.boxes)
    found = []
    for place in range(count_places(duty.hand)):
        found.extend([(place, stand) for stand in every])
    return found


def breaks_of(duty):
    found = {}
    for spot in spots_of(duty):
        ending = break_here(duty, spot[0], spot[1])
        if ending is not None:
            found[spot] = ending
    return found


def break_here(duty, place, stand):
    if not duty.noted(place, stand):
        return ("note",)
    for way, next_place, further in duty.own_from(place, stand):
        if not duty.keeps(stand, further):
            return ("promise", way)
    return None


# The first step from each spot, and the spot behind it. Found from the breaks back, so that each step leads nearer to
# one: no road comes to a spot twice, and each has fewer steps than there are spots.
def onward_to(duty, breaks):
    back = steps_back(duty)
    onward = {}
    reached = list(breaks)
    number = 0
    while number < len(reached):
        further = reached[number]
        for spot, step in back.get(further, []):
            if spot not in breaks and spot not in onward:
                onward[spot] = (step, further)
                reached.append(spot)
        number = number + 1
    return onward


def steps_back(duty):
    back = {}
    for spot in spots_of(duty):
        for step, further in steps_on(duty, spot[0], spot[1]):
            back.setdefault(further, []).append((spot, step))
    return back


def steps_on(duty, place, stand):
    found = []
    for way, next_place, further in duty.own_from(place, stand):
        found.append((("own", way), (next_place, further)))
    for number, further in duty.others_from(stand):
        found.append((("other", number, further), (place, further)))
    return found
