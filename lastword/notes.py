"""Notes: a box and its walk as a text, and boxes made of such a text."""

from lastword.errors import NoNote
from lastword.house import FIXED_SIZES
from lastword.shapes import walk_draft
from lastword.things import box_name, box_thing

MOST_FIELDS = 8
MOST_FIGURES = 40
FIGURES = "0123456789"


def shown(house, name):
    return "\n".join([line_of(row) for row in walk_draft(house, name)])


def read(house, note, slot=0):
    house.check_slot(slot)
    draft = draft_in(note)
    house.make_room(len(draft))
    return house.build(draft, slot)


def line_of(row):
    return " ".join([row[0]] + [word_of(thing) for thing in row[1]])


def word_of(thing):
    if thing is None:
        return "-"
    place = box_name(thing)
    if place is None:
        return str(thing)
    return f"#{place}"


def draft_in(note):
    lines = note.split("\n")
    return [row_in(line, len(lines)) for line in lines]


def row_in(line, count):
    words = line.split(" ")
    kind = words[0]
    things = [thing_in(word, count) for word in words[1:]]
    if not may_have(kind, len(things)):
        raise NoNote(f"no box is written {line!r}")
    return (kind, things)


def may_have(kind, size):
    if kind == "plain":
        return size <= MOST_FIELDS
    return FIXED_SIZES.get(kind) == size


def thing_in(word, count):
    if word == "-":
        return None
    if word.startswith("#"):
        return box_thing(place_in(word[1:], count))
    if word.startswith("-"):
        return number_below_nought(word[1:])
    return number_in(word)


def place_in(word, count):
    place = number_in(word)
    if place >= count:
        raise NoNote(f"there is no line {place}")
    return place


def number_below_nought(word):
    number = number_in(word)
    if number == 0:
        raise NoNote("nought is written without a minus")
    return -number


def number_in(word):
    if not is_number(word):
        raise NoNote(f"no number is written {word!r}")
    return int(word)


def is_number(word):
    if len(word) < 1 or len(word) > MOST_FIGURES:
        return False
    if len(word) > 1 and word.startswith("0"):
        return False
    return all([sign in FIGURES for sign in word])
