"""Houses for the tests, and the document's points told a second time.

What is held, what a sweep does, what tells two boxes apart, and what copies,
folds and notes make are worked out here from a picture of the house that was
taken through its interface, in the plainest way there is.
"""

import copy
import random
import re
import unittest

from lastword.errors import Crowded, HouseError, NoNote, NoSlot
from lastword.house import House
from lastword.sweeping import sweep

GUARDS = range(4)
GREATEST = 10 ** 40 - 1
WORD = "(-|0|-?[1-9][0-9]{0,39}|#0|#[1-9][0-9]{0,39})"
LINE = re.compile(f"plain( {WORD}){{0,8}}|weak {WORD}|pair {WORD} {WORD}")


def B(name):
    return ("box", name)


def house_of(boxes, slots=(), waits=(), told=(), room=60):
    """A house with boxes 1, 2, .. told as (kind, field, field, ..).

    Slot k holds slots[k]; `waits` and `told` are (guard, name), each guard's in
    their order. A box becomes told in a sweep ahead of all fields and slots.
    """
    house = House(room, max(4, len(slots), len(boxes)))
    for slot, row in enumerate(boxes):
        house.make(row[0], len(row) - 1, slot)
    for guard, name in told:
        house.watch(guard, name)
        house.hold(name - 1, None)
    sweep(house)
    for name, row in enumerate(boxes, start=1):
        for at, thing in enumerate(row[1:]):
            house.put(name, at, thing)
    for slot in range(len(boxes)):
        house.hold(slot, None)
    for slot, thing in enumerate(slots):
        house.hold(slot, thing)
    for guard, name in waits:
        house.watch(guard, name)
    return house


def slots_of(house):
    slots = []
    while True:
        try:
            slots.append(house.held(len(slots)))
        except NoSlot:
            return slots


def next_name(house):
    """The name that the next box would have: a twin of the house is asked."""
    twin = copy.deepcopy(house)
    for guard in GUARDS:
        for name in twin.waiting(guard):
            twin.leave(guard, name)
        while twin.words(guard):
            twin.take(guard)
    for slot in range(len(slots_of(twin))):
        twin.hold(slot, None)
    return twin.make("plain")


def picture(house):
    """All that the interface tells of a house, as plain values."""
    names = house.names()
    return {
        "next": next_name(house),
        "kinds": {name: house.kind(name) for name in names},
        "fields": {name: [house.field(name, at) for at in range(house.size(name))] for name in names},
        "slots": slots_of(house),
        "waiting": [house.waiting(guard) for guard in GUARDS],
        "told": [house.words(guard) for guard in GUARDS],
    }


def boxes_in(things):
    return {thing[1] for thing in things if isinstance(thing, tuple)}


def held_names(seen, besides=None):
    """Point 5 (and 8), by going over all boxes until nothing comes anew."""
    held = boxes_in(seen["slots"]).union(*seen["told"])
    if besides is not None:
        held.add(besides)
    while True:
        more = set(held)
        for name in held:
            kind, fields = seen["kinds"][name], seen["fields"][name]
            if kind == "plain":
                more |= boxes_in(fields)
            elif kind == "pair" and boxes_in(fields[:1]) <= held:
                more |= boxes_in(fields[1:])
        if more == held:
            return held
        held = more


def swept(seen, besides=None):
    """Points 7 to 9: what the sweep tells. It changes `seen` as the house is to change."""
    kinds, fields = seen["kinds"], seen["fields"]
    ahead = held_names(seen, besides)
    weak = [n for n in sorted(kinds) if kinds[n] == "weak" and boxes_in(fields[n]) - ahead]
    for name in weak:
        fields[name] = [None]
    told = [(guard, name) for guard in GUARDS for name in seen["waiting"][guard] if name not in ahead]
    for guard, name in told:
        seen["waiting"][guard].remove(name)
        seen["told"][guard].append(name)
    anew = held_names(seen, besides)
    pairs = [n for n in sorted(anew) if kinds[n] == "pair" and boxes_in(fields[n][:1]) - anew]
    for name in pairs:
        fields[name] = [None, None]
    gone = sorted(set(kinds) - anew)
    for name in gone:
        del kinds[name], fields[name]
    return (gone, weak, pairs, told)


def walk_in(seen, name):
    """Point 11."""
    names = [name]
    for current in names:
        for thing in seen["fields"][current]:
            if isinstance(thing, tuple) and thing[1] not in names:
                names.append(thing[1])
    return names


def of_one_shape(seen, name, other):
    """Point 12."""
    ones, others = walk_in(seen, name), walk_in(seen, other)
    if len(ones) != len(others):
        return False
    for one, two in zip(ones, others):
        fields, matching = seen["fields"][one], seen["fields"][two]
        if seen["kinds"][one] != seen["kinds"][two] or len(fields) != len(matching):
            return False
        for thing, match in zip(fields, matching):
            if isinstance(thing, tuple) and isinstance(match, tuple):
                if ones.index(thing[1]) != others.index(match[1]):
                    return False
            elif thing != match:
                return False
    return True


def looks_unlike(seen, name, other):
    def look(box):
        return seen["kinds"][box], ["box" if isinstance(thing, tuple) else thing for thing in seen["fields"][box]]
    return look(name) != look(other)


def road_in(seen, name, other):
    """Point 13, by trying all roads. No road need be longer than there are boxes."""
    roads = [([], name, other)]
    for length in range(len(seen["kinds"]) + 1):
        for road, one, two in roads:
            if looks_unlike(seen, one, two):
                return road
        roads = [(road + [at], thing[1], match[1]) for road, one, two in roads
                 for at, (thing, match) in enumerate(zip(seen["fields"][one], seen["fields"][two]))
                 if isinstance(thing, tuple)]
    return None


def stand_ins(seen, name, folding):
    """By each box of the walk, in its order: the box that is taken for it."""
    chosen = {}
    for box in walk_in(seen, name):
        matches = [one for one in chosen if folding and road_in(seen, one, box) is None]
        chosen[box] = (matches + [box])[0]
    return chosen


def copied(seen, room, name, slot, folding=False):
    """Points 14 and 15: the first new name, or Crowded. It changes `seen` as the house is to change."""
    if len(seen["kinds"]) + len(set(stand_ins(seen, name, folding).values())) > room:
        swept(seen, name)
    chosen = stand_ins(seen, name, folding)
    taken = list(dict.fromkeys(chosen.values()))
    rows = [(seen["kinds"][box], [B(taken.index(chosen[thing[1]])) if isinstance(thing, tuple) else thing
                                  for thing in seen["fields"][box]]) for box in taken]
    return built(seen, room, rows, slot)


def built(seen, room, rows, slot):
    """A box for each (kind, fields), where a field with a box has the place of its row."""
    if len(seen["kinds"]) + len(rows) > room:
        return Crowded
    first = seen["next"]
    for name, (kind, fields) in enumerate(rows, start=first):
        seen["kinds"][name] = kind
        seen["fields"][name] = [B(first + thing[1]) if isinstance(thing, tuple) else thing for thing in fields]
    seen["slots"][slot] = B(first)
    seen["next"] += len(rows)
    return first


def note_of(seen, name):
    """Point 16, the writing."""
    places = {box: f"#{place}" for place, box in enumerate(walk_in(seen, name))}
    lines = []
    for box in places:
        words = [places[thing[1]] if isinstance(thing, tuple) else "-" if thing is None else str(thing)
                 for thing in seen["fields"][box]]
        lines.append(" ".join([seen["kinds"][box]] + words))
    return "\n".join(lines)


def rows_in(note):
    """Point 16, the reading: (kind, fields) for each line, or None where the text is refused."""
    lines = note.split("\n")
    if not all(LINE.fullmatch(line) for line in lines):
        return None
    if any(int(place) >= len(lines) for place in re.findall("#([0-9]+)", note)):
        return None
    rows = []
    for line in lines:
        kind, *words = line.split(" ")
        rows.append((kind, [None if word == "-" else B(int(word[1:])) if word[0] == "#" else int(word)
                            for word in words]))
    return rows


def noted(seen, room, note, slot):
    """Points 10 and 16: the first new name, NoNote or Crowded. It changes `seen` as the house is to change."""
    rows = rows_in(note)
    if rows is None:
        return NoNote
    if len(seen["kinds"]) + len(rows) > room:
        swept(seen)
    return built(seen, room, rows, slot)


def outcome(deed, *given):
    """What the deed answers, or the class of its refusal."""
    try:
        return deed(*given)
    except HouseError as error:
        return type(error)


class Refusing(unittest.TestCase):
    def refused(self, error, house, deed, *given):
        """It is refused in this way, and the whole house is as it was."""
        before = picture(house)
        with self.subTest(deed=deed.__name__, given=given):
            self.assertIs(outcome(deed, *given), error)
            self.assertEqual(picture(house), before)


def paper_faults(house, rows, besides=None):
    """What is wrong with a paper: a list of texts, empty where all is right."""
    seen = picture(house)
    faults = []
    ahead = set()
    for row in rows:
        if row[0] in ahead:
            faults.append(f"{row}: twice")
        if not reason_holds(seen, row, ahead, besides):
            faults.append(f"{row}: not so")
        ahead.add(row[0])
    if ahead != held_names(seen, besides):
        faults.append(f"shows {sorted(ahead)}, held are {sorted(held_names(seen, besides))}")
    return faults


def reason_holds(seen, row, ahead, besides):
    name, reason, rest = row[0], row[1], row[2:]
    if reason == "besides":
        return rest == () and name == besides and besides is not None
    if reason == "slot":
        return len(rest) == 1 and seen["slots"][rest[0]] == B(name)
    if reason == "told":
        return len(rest) == 1 and name in seen["told"][rest[0]]
    if rest == () or rest[0] not in ahead or seen["kinds"][rest[0]] != reason:
        return False
    fields = seen["fields"][rest[0]]
    if reason == "plain":
        return len(rest) == 2 and fields[rest[1]] == B(name)
    return len(rest) == 1 and fields[1] == B(name) and boxes_in(fields[:1]) <= ahead


def any_thing(chance, house):
    if house.names() and chance.random() < 0.75:
        return B(chance.choice(house.names()))
    return chance.choice([None, 0, -7, 10 ** 40 - 1])


def any_house(seed):
    """A house for a seed, the same each time, with told boxes among others."""
    chance = random.Random(seed)
    house = House(200, chance.randint(1, 4))
    for step in range(chance.randint(0, 3)):
        if chance.random() < 0.7:
            sweep(house)
        grow(chance, house)
    return house


def grow(chance, house):
    for step in range(chance.randint(0, 8)):
        house.make(chance.choice(["plain", "weak", "pair", "pair"]), chance.randint(0, 3))
    for name in house.names():
        for at in range(house.size(name)):
            if chance.random() < 0.7:
                house.put(name, at, any_thing(chance, house))
        for guard in GUARDS:
            if chance.random() < 0.2 and name not in house.waiting(guard):
                house.watch(guard, name)
    for slot in range(len(slots_of(house))):
        house.hold(slot, any_thing(chance, house) if chance.random() < 0.5 else None)
    if house.words(0) and chance.random() < 0.5:
        house.take(0)


def any_tight_house(seed):
    """A house for a seed and its room: few boxes, many of them alike, and little room or none."""
    chance = random.Random(seed)
    count = chance.randint(1, 6)
    names = range(1, count + 1)

    def thing():
        return chance.choice([None, 5, -5] + [B(name) for name in names] * 2)

    sizes = {"plain": 2, "weak": 1, "pair": 2}
    kinds = [chance.choice(["plain", "plain", "weak", "pair"]) for name in names]
    boxes = [(kind,) + tuple(thing() for at in range(sizes[kind])) for kind in kinds]
    told = [(chance.randrange(4), name) for name in names if chance.random() < 0.1]
    waits = [(chance.randrange(4), name) for name in names if chance.random() < 0.2]
    slots = [thing() for slot in range(chance.randint(0, 2))]
    room = count + chance.randint(0, 5)
    return house_of(boxes, slots, waits, told, room), room
