"""Shapes: the walk of a box, what tells two boxes apart, copies and folds."""

from lastword.things import box_name, renamed


def walk(house, name):
    house.check_box(name)
    names = [name]
    listed = {name: True}
    at = 0
    while at < len(names):
        current = names[at]
        for found in boxes_in(house, current):
            if found not in listed:
                listed[found] = True
                names.append(found)
        at += 1
    return names


def alike(house, name, other):
    return walk_draft(house, name) == walk_draft(house, other)


def apart(house, name, other):
    house.check_box(name)
    house.check_box(other)
    looks = looks_of(house)
    # By a pair of boxes: the pair and the field through which it was reached
    # first. Two rings can lead through very many pairs, so no road is kept.
    reached = {(name, other): None}
    pairs = [(name, other)]
    at = 0
    while at < len(pairs):
        pair = pairs[at]
        if looks[pair[0]] != looks[pair[1]]:
            return road_to(pair, reached)
        for step in steps_from(house, pair):
            if step[1] not in reached:
                reached[step[1]] = (pair, step[0])
                pairs.append(step[1])
        at += 1
    return None


def doubled(house, name, slot=0):
    house.check_slot(slot)
    house.make_room(len(walk(house, name)), name)
    return house.build(walk_draft(house, name), slot)


def folded(house, name, slot=0):
    house.check_slot(slot)
    house.make_room(len(fold_draft(house, name)), name)
    return house.build(fold_draft(house, name), slot)


def boxes_in(house, name):
    found = [box_name(thing) for thing in things_in(house, name)]
    return [inner for inner in found if inner is not None]


def things_in(house, name):
    return [house.field(name, at) for at in range(house.size(name))]


def row_of(house, name, new_names):
    things = [renamed(thing, new_names) for thing in things_in(house, name)]
    return (house.kind(name), tuple(things))


def walk_draft(house, name):
    names = walk(house, name)
    places = dict([(found, place) for place, found in enumerate(names)])
    return [row_of(house, found, places) for found in names]


def fold_draft(house, name):
    names = walk(house, name)
    firsts = first_of_each(house, names)
    taken = [found for found in names if firsts[found] == found]
    places = dict([(found, place) for place, found in enumerate(taken)])
    taken_places = dict([(found, places[firsts[found]]) for found in names])
    return [row_of(house, found, taken_places) for found in taken]


def first_of_each(house, names):
    """By each name: the first of the names that no road tells apart from it."""
    # At first all count as one; each turn tells apart what roads longer by one
    # field tell apart, until a turn finds nothing more.
    finer = dict([(name, names[0]) for name in names])
    firsts = {}
    while finer != firsts:
        firsts = finer
        finer = split_further(house, names, firsts)
    return firsts


def split_further(house, names, firsts):
    by_row = {}
    finer = {}
    for name in names:
        finer[name] = by_row.setdefault(row_of(house, name, firsts), name)
    return finer


def looks_of(house):
    """By each name: what the end of a road can tell; which box is in a field is left out."""
    names = house.names()
    left_out = dict([(name, 0) for name in names])
    return dict([(name, row_of(house, name, left_out)) for name in names])


def steps_from(house, pair):
    """A tuple (field, pair of boxes) for each field with a box, of two boxes that look the same."""
    steps = []
    for at in range(house.size(pair[0])):
        first = box_name(house.field(pair[0], at))
        second = box_name(house.field(pair[1], at))
        if first is not None:
            steps.append((at, (first, second)))
    return steps


def road_to(pair, reached):
    road = []
    came = reached[pair]
    while came is not None:
        road.append(came[1])
        came = reached[came[0]]
    return list(reversed(road))
