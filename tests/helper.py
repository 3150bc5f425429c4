"""Houses for the tests, and the document's points told a second time.

What is held and what a sweep does are worked out here from a picture of the
house that was taken through its interface, in the plainest way there is.
"""

import random

from lastword.errors import NoSlot
from lastword.house import House
from lastword.sweeping import sweep

GUARDS = range(4)


def B(name):
    return ("box", name)


def house_of(boxes, slots=(), waits=(), told=(), room=60):
    """A house with boxes 1, 2, .. told as (kind, field, field, ..).

    Slot k holds slots[k]; `waits` and `told` are (guard, name), each guard's in
    their order. A box becomes told in a sweep ahead of all fields and slots.
    """
    house = House(room, max(4, len(slots), len(boxes)))
    for slot, row in enumerate(boxes):
        house.make(row[0], len(row) - 1, slot)
    for guard, name in told:
        house.watch(guard, name)
        house.hold(name - 1, None)
    sweep(house)
    for name, row in enumerate(boxes, start=1):
        for at, thing in enumerate(row[1:]):
            house.put(name, at, thing)
    for slot in range(len(boxes)):
        house.hold(slot, None)
    for slot, thing in enumerate(slots):
        house.hold(slot, thing)
    for guard, name in waits:
        house.watch(guard, name)
    return house


def slots_of(house):
    slots = []
    while True:
        try:
            slots.append(house.held(len(slots)))
        except NoSlot:
            return slots


def picture(house):
    """All that the interface tells of a house, as plain values."""
    names = house.names()
    return {
        "kinds": {name: house.kind(name) for name in names},
        "fields": {name: [house.field(name, at) for at in range(house.size(name))] for name in names},
        "slots": slots_of(house),
        "waiting": [house.waiting(guard) for guard in GUARDS],
        "told": [house.words(guard) for guard in GUARDS],
    }


def boxes_in(things):
    return {thing[1] for thing in things if isinstance(thing, tuple)}


def held_names(seen, besides=None):
    """Point 5 (and 8), by going over all boxes until nothing comes anew."""
    held = boxes_in(seen["slots"]).union(*seen["told"])
    if besides is not None:
        held.add(besides)
    while True:
        more = set(held)
        for name in held:
            kind, fields = seen["kinds"][name], seen["fields"][name]
            if kind == "plain":
                more |= boxes_in(fields)
            elif kind == "pair" and boxes_in(fields[:1]) <= held:
                more |= boxes_in(fields[1:])
        if more == held:
            return held
        held = more


def swept(seen, besides=None):
    """Points 7 to 9: what the sweep tells. It changes `seen` as the house is to change."""
    kinds, fields = seen["kinds"], seen["fields"]
    ahead = held_names(seen, besides)
    weak = [n for n in sorted(kinds) if kinds[n] == "weak" and boxes_in(fields[n]) - ahead]
    for name in weak:
        fields[name] = [None]
    told = [(guard, name) for guard in GUARDS for name in seen["waiting"][guard] if name not in ahead]
    for guard, name in told:
        seen["waiting"][guard].remove(name)
        seen["told"][guard].append(name)
    anew = held_names(seen, besides)
    pairs = [n for n in sorted(anew) if kinds[n] == "pair" and boxes_in(fields[n][:1]) - anew]
    for name in pairs:
        fields[name] = [None, None]
    gone = sorted(set(kinds) - anew)
    for name in gone:
        del kinds[name], fields[name]
    return (gone, weak, pairs, told)


def paper_faults(house, rows, besides=None):
    """What is wrong with a paper: a list of texts, empty where all is right."""
    seen = picture(house)
    faults = []
    ahead = set()
    for row in rows:
        if row[0] in ahead:
            faults.append(f"{row}: twice")
        if not reason_holds(seen, row, ahead, besides):
            faults.append(f"{row}: not so")
        ahead.add(row[0])
    if ahead != held_names(seen, besides):
        faults.append(f"shows {sorted(ahead)}, held are {sorted(held_names(seen, besides))}")
    return faults


def reason_holds(seen, row, ahead, besides):
    name, reason, rest = row[0], row[1], row[2:]
    if reason == "besides":
        return rest == () and name == besides and besides is not None
    if reason == "slot":
        return len(rest) == 1 and seen["slots"][rest[0]] == B(name)
    if reason == "told":
        return len(rest) == 1 and name in seen["told"][rest[0]]
    if rest == () or rest[0] not in ahead or seen["kinds"][rest[0]] != reason:
        return False
    fields = seen["fields"][rest[0]]
    if reason == "plain":
        return len(rest) == 2 and fields[rest[1]] == B(name)
    return len(rest) == 1 and fields[1] == B(name) and boxes_in(fields[:1]) <= ahead


def any_thing(chance, house):
    if house.names() and chance.random() < 0.75:
        return B(chance.choice(house.names()))
    return chance.choice([None, 0, -7, 10 ** 40 - 1])


def any_house(seed):
    """A house for a seed, the same each time, with told boxes among others."""
    chance = random.Random(seed)
    house = House(200, chance.randint(1, 4))
    for step in range(chance.randint(0, 3)):
        if chance.random() < 0.7:
            sweep(house)
        grow(chance, house)
    return house


def grow(chance, house):
    for step in range(chance.randint(0, 8)):
        house.make(chance.choice(["plain", "weak", "pair", "pair"]), chance.randint(0, 3))
    for name in house.names():
        for at in range(house.size(name)):
            if chance.random() < 0.7:
                house.put(name, at, any_thing(chance, house))
        for guard in GUARDS:
            if chance.random() < 0.2 and name not in house.waiting(guard):
                house.watch(guard, name)
    for slot in range(len(slots_of(house))):
        house.hold(slot, any_thing(chance, house) if chance.random() < 0.5 else None)
    if house.words(0) and chance.random() < 0.5:
        house.take(0)
