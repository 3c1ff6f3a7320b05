"""Reading what is written, sign by sign: numbers, sums, conditions, and the ways of a row."""

from handpromise.conds import COND_FORMS, MOST_NUMBER, SUM_FORMS
from handpromise.errors import NoText
from handpromise.stands import LETTERS

FIGURES = "0123456789"
MOST_FIGURES = 60

# What stands between the two parts that a word goes with.
SIGNS = {"plus": " + ", "minus": " - ", "is": " = ", "less": " < ", "both": " and ", "either": " or "}


# Python's own tests for figures let by figures of other scripts, and its numbers noughts ahead.
def is_written_number(word):
    if not 1 <= len(word) <= MOST_FIGURES or not all([sign in FIGURES for sign in word]):
        return False
    return word == "0" or word[0] != "0"


def kind_of(part):
    return "sum" if part[0] in SUM_FORMS else "cond"


def check_kind(part, due):
    if kind_of(part) != due:
        raise NoText("a sum stands where a condition is due, or the other way round")


def checked_part(part):
    word = part[0]
    form = SUM_FORMS[word] if word in SUM_FORMS else COND_FORMS[word]
    for due, inner in zip(form, part[1:]):
        check_kind(inner, due)
    return part


# A text, and how far it is read.
class Reading:
    def __init__(self, boxes, text, plain):
        self.numbers = dict([(box[0], number) for number, box in enumerate(boxes)])
        self.text = text
        self.plain = plain
        self.at = 0

    def takes(self, piece):
        found = self.text.startswith(piece, self.at)
        if found:
            self.at = self.at + len(piece)
        return found

    def needs(self, piece):
        if not self.takes(piece):
            raise NoText("something else stands in the text than is due there")

    def needs_end(self):
        if self.at < len(self.text):
            raise NoText("something stands behind the text's end")

    # As many of these signs as stand here, perhaps none.
    def run_of(self, signs):
        begin = self.at
        while self.at < len(self.text) and self.text[self.at] in signs:
            self.at = self.at + 1
        return self.text[begin:self.at]

    def number(self):
        figures = self.run_of(FIGURES)
        if not is_written_number(figures):
            raise NoText("a number is written by at most sixty figures, without noughts ahead")
        return int(figures)

    def box_called(self, name):
        if name not in self.numbers:
            raise NoText("no box has this name")
        return self.numbers[name]

    def part_of_kind(self, due):
        part = self.part()
        check_kind(part, due)
        return part

    # What is begun and not ended yet is kept in a list, not in calls: so brackets and nots may stand as deep as they
    # like. Each lacks its last part, and is () as long as the first one in a bracket isn't read.
    def part(self):
        begun = []
        one = None
        while one is None or begun:
            one = self.begin_or_leaf(begun) if one is None else self.join_to_last(begun, one)
        return one

    def begin_or_leaf(self, begun):
        if self.takes("("):
            begun.append(())
            return None
        if self.takes("not "):
            begun.append(("not",))
            return None
        return self.leaf()

    def join_to_last(self, begun, one):
        last = begun.pop()
        if last == ():
            begun.append((self.word_between(), one))
            return None
        if last != ("not",):
            self.needs(")")
        return checked_part(last + (one,))

    def word_between(self):
        for word in SIGNS:
            if self.takes(SIGNS[word]):
                return word
        raise NoText("no sign stands between two parts")

    def leaf(self):
        name = self.run_of(LETTERS)
        if name == "":
            return self.number_leaf()
        return ("yes",) if name == "yes" else self.box_leaf(name)

    def number_leaf(self):
        number = self.number()
        if number > MOST_NUMBER:
            raise NoText("a number in a sum is at most 99")
        return ("number", number)

    def box_leaf(self, name):
        box = self.box_called(name)
        if not self.takes("'"):
            return ("box", box)
        if self.plain:
            raise NoText("no after stands where a plain one is due")
        return ("after", box)


def whole_cond(boxes, text, plain):
    reading = Reading(boxes, text, plain)
    cond = reading.part_of_kind("cond")
    reading.needs_end()
    return cond


def whole_row(boxes, text):
    reading = Reading(boxes, text, True)
    ways = [way_from(reading)]
    while reading.takes(" | "):
        ways.append(way_from(reading))
    reading.needs_end()
    return ways


# A box may be called nothing: what stands behind the word tells whether it is put.
def way_from(reading):
    guard = reading.part_of_kind("cond")
    reading.needs(" do ")
    if reading.takes("nothing to "):
        return (guard, (), reading.number())
    puts = puts_from(reading)
    reading.needs(" to ")
    return (guard, puts, reading.number())


def puts_from(reading):
    puts = [put_from(reading, 0)]
    while reading.takes(", "):
        puts.append(put_from(reading, puts[-1][0] + 1))
    return tuple(puts)


def put_from(reading, least):
    box = reading.box_called(reading.run_of(LETTERS))
    if box < least:
        raise NoText("puts are in the boxes' order, each box once")
    reading.needs(" = ")
    return (box, reading.part_of_kind("sum"))
