"""The desk: a house told by its text, asked and woven row by row."""

from handpromise.errors import NoName, NoRow, NoStep, TooMany
from handpromise.houses import BOXES, HANDS, count_places
from handpromise.papers import duties_of
from handpromise.reading import is_written_number
from handpromise.stands import is_stand
from handpromise.texts import read_house, shown_house
from handpromise.trades import least
from handpromise.verdicts import broken, judged
from handpromise.weakest import weakest_paper
from handpromise.weave import all_states, gone, stuck, woven

MOST_STEPS = 60

# What is due behind each first word; values are a number for each box.
ROW_FORMS = {
    "judge": (),
    "broken": (),
    "note": ("hand", "number"),
    "may": ("hand", "number", "values"),
    "start": ("values",),
    "step": ("hand", "number"),
    "state": (),
    "least": (),
    "states": (),
    "stuck": (),
    "show": (),
}
OF_A_WEAVING = ("step", "state", "least")
OF_A_HAND = ("note", "may", "step")


def number_words(numbers):
    return [str(number) for number in numbers]


def step_words(names, steps):
    return [names[hand] + ":" + str(way) for hand, way in steps]


# How a row must be written, whatever the house's hands are called.
def words_of(row, count_boxes):
    if not isinstance(row, str):
        raise NoRow("a row is a text")
    words = row.split(" ")
    if words[0] not in ROW_FORMS:
        raise NoRow("no row begins with this word")
    due = kinds_due(words[0], count_boxes)
    if len(words) - 1 != len(due):
        raise NoRow("a row has as many words as are due behind its first one")
    for kind, word in zip(due, words[1:]):
        if kind == "number" and not is_written_number(word):
            raise NoRow("a number is written by at most sixty figures, without noughts ahead")
    return words


def kinds_due(word, count_boxes):
    due = []
    for kind in ROW_FORMS[word]:
        due.extend(["number"] * count_boxes if kind == "values" else [kind])
    return due


class Desk:
    def __init__(self, text):
        told = read_house(text)
        self.house = told[0]
        self.names = told[1]
        self.papers = None
        self.start = None
        self.steps = []
        self.state = None

    def say(self, row):
        words = words_of(row, len(self.house[BOXES]))
        word = words[0]
        if word in OF_A_WEAVING and self.state is None:
            raise NoRow("no weaving is begun")
        if word == "start":
            return self.begin_at(tuple([int(figures) for figures in words[1:]]))
        if word in OF_A_HAND:
            return self.say_of_hand(word, self.hand_called(words[1]), [int(figures) for figures in words[2:]])
        return self.say_of_weaving(word) if word in OF_A_WEAVING else self.say_of_house(word)

    def hand_called(self, name):
        if name not in self.names:
            raise NoName("no hand has this name")
        return self.names.index(name)

    # Nothing is kept ahead of the last refusal.
    def begin_at(self, start):
        self.state = woven(self.house, start, [])[0]
        self.start = start
        self.steps = []
        return "ok"

    def say_of_hand(self, word, hand, numbers):
        if word == "step":
            return self.go_on((hand, numbers[0]))
        listed = self.listed_at(hand, numbers[0])
        if word == "note":
            return str(len(listed))
        stand = tuple(numbers[1:])
        if not is_stand(self.house[BOXES], stand):
            raise NoRow("these values are no stand")
        return "yes" if stand in listed else "no"

    def go_on(self, step):
        if len(self.steps) == MOST_STEPS:
            raise TooMany("a weaving at a desk has at most sixty steps")
        further = gone(self.house, self.state, step)
        if further is None:
            raise NoStep(len(self.steps))
        self.state = further
        self.steps.append(step)
        return "ok"

    # The weakest papers are the same as long as the house is: they are reckoned once, when they are first asked for.
    def listed_at(self, hand, place):
        if place >= count_places(self.house[HANDS][hand]):
            raise NoRow("the hand has no such place")
        if self.papers is None:
            self.papers = [weakest_paper(duty) for duty in duties_of(self.house)]
        return self.papers[hand][place]

    def say_of_weaving(self, word):
        if word == "state":
            return " ".join(number_words(self.state[0]) + ["/"] + number_words(self.state[1]))
        steps = least(self.house, self.start, self.steps)[0]
        return " ".join(step_words(self.names, steps)) if steps else "nothing"

    def say_of_house(self, word):
        if word == "judge":
            return self.shown_verdict()
        if word == "broken":
            return self.shown_break()
        if word == "states":
            return str(len(all_states(self.house)))
        if word == "stuck":
            return str(len(stuck(self.house)))
        return shown_house(self.house, self.names)

    def shown_verdict(self):
        verdict = judged(self.house)
        if verdict[0] == "good":
            return "good"
        return " ".join(["spoiled", self.names[verdict[1]]] + number_words(verdict[2]))

    def shown_break(self):
        found = broken(self.house)
        if found is None:
            return "no"
        ending = found[2]
        words = [ending[0], self.names[ending[1]]] + number_words(ending[2:]) + ["from"]
        return " ".join(words + number_words(found[0]) + step_words(self.names, found[1]))
