"""Texts: conditions and houses as they are written, read and shown."""

from handpromise.conds import cond_of
from handpromise.errors import NoText
from handpromise.houses import BEGIN, BOXES, HANDS, NOTES, PROMISES, house_of
from handpromise.reading import SIGNS, is_written_number, whole_cond, whole_row
from handpromise.stands import is_name


# What is no condition is refused in the whole text, ahead of how many parts it has.
def read_cond(boxes, text, plain):
    check_text(text)
    return cond_of(boxes, whole_cond(boxes, text, plain), plain)


def check_text(thing):
    if not isinstance(thing, str):
        raise NoText("there is a text to read, and no other kind")


def shown_cond(boxes, cond):
    return shown_part(boxes, cond)


def shown_part(boxes, one):
    word = one[0]
    if word == "yes":
        return "yes"
    if word == "number":
        return str(one[1])
    if word == "box":
        return boxes[one[1]][0]
    if word == "after":
        return boxes[one[1]][0] + "'"
    inner = [shown_part(boxes, part) for part in one[1:]]
    if word == "not":
        return "not " + inner[0]
    return "(" + inner[0] + SIGNS[word] + inner[1] + ")"


# The lines of a text, and how many of them are read.
class Lines:
    def __init__(self, text):
        self.lines = text.split("\n")
        self.done = 0

    def are_read(self):
        return self.done == len(self.lines)

    def begin_with(self, word):
        return not self.are_read() and self.lines[self.done].startswith(word + " ")

    # What stands behind the word in the next line.
    def behind_word(self, word):
        if not self.begin_with(word):
            raise NoText("a line is lacking, or stands where another one is due")
        self.done = self.done + 1
        return self.lines[self.done - 1][len(word) + 1:]


def read_house(text):
    check_text(text)
    lines = Lines(text)
    boxes = boxes_from(lines)
    begin = whole_cond(boxes, lines.behind_word("begin"), True)
    read = [hand_from(lines, boxes)]
    while not lines.are_read():
        read.append(hand_from(lines, boxes))
    names = [name for name, promise, notes, rows in read]
    check_unlike(names)
    hands = [rows for name, promise, notes, rows in read]
    promises = [promise for name, promise, notes, rows in read]
    every_note = [notes for name, promise, notes, rows in read]
    return (house_of(boxes, begin, hands, promises, every_note), names)


def boxes_from(lines):
    boxes = []
    while lines.begin_with("box"):
        boxes.append(box_from(lines.behind_word("box")))
    check_unlike([name for name, top in boxes])
    return boxes


def box_from(text):
    words = text.split(" ")
    if len(words) != 2 or not is_name(words[0]) or not is_written_number(words[1]):
        raise NoText("a box's line is its name and its top")
    # In a condition these words stand for themselves.
    if words[0] == "yes" or words[0] == "not":
        raise NoText("no box is called yes or not")
    return (words[0], int(words[1]))


def check_unlike(names):
    if len(set(names)) < len(names):
        raise NoText("no two boxes and no two hands have one name")


def hand_from(lines, boxes):
    name = lines.behind_word("hand")
    if not is_name(name):
        raise NoText("a hand's name is one to eight small letters")
    promise = whole_cond(boxes, lines.behind_word("promise"), False)
    notes = [note_from(lines, boxes)]
    rows = []
    while lines.begin_with("row"):
        rows.append(whole_row(boxes, lines.behind_word("row")))
        notes.append(note_from(lines, boxes))
    return (name, promise, notes, rows)


def note_from(lines, boxes):
    return whole_cond(boxes, lines.behind_word("note"), True)


def shown_house(house, names):
    boxes = house[BOXES]
    lines = [f"box {name} {top}" for name, top in boxes]
    lines.append("begin " + shown_cond(boxes, house[BEGIN]))
    for number, name in enumerate(names):
        lines.append("hand " + name)
        lines.append("promise " + shown_cond(boxes, house[PROMISES][number]))
        lines.extend(place_lines(boxes, house[HANDS][number], house[NOTES][number]))
    return "\n".join(lines)


def place_lines(boxes, rows, notes):
    shown = ["note " + shown_cond(boxes, note) for note in notes]
    lines = []
    for note, row in zip(shown, rows):
        lines.append(note)
        lines.append("row " + " | ".join([shown_way(boxes, way) for way in row]))
    return lines + [shown[-1]]


def shown_way(boxes, way):
    guard = shown_cond(boxes, way[0])
    puts = shown_puts(boxes, way[1])
    place = way[2]
    return f"{guard} do {puts} to {place}"


def shown_puts(boxes, puts):
    if len(puts) == 0:
        return "nothing"
    return ", ".join([boxes[box][0] + " = " + shown_part(boxes, one) for box, one in puts])
