"""Sweeps: what nobody holds is told to the guards it waits at, or goes."""

from lastword.living import living
from lastword.things import box_name


def sweep(house, besides=None):
    if besides is not None:
        house.check_box(besides)
    held_ahead = living(house, besides)
    weak_broken = break_weak(house, held_ahead)
    told = tell_unheld(house, held_ahead)
    held_anew = living(house, besides)
    pairs_broken = break_pairs(house, held_anew)
    # A broken pair held nobody through its key, so breaking it lets nobody go
    # and held_anew is still right.
    gone = drop_unheld(house, held_anew)
    return (gone, weak_broken, pairs_broken, told)


def break_weak(house, held):
    weak = [name for name in house.names() if house.kind(name) == "weak"]
    broken = [name for name in weak if leads_to_unheld(house, name, held)]
    for name in broken:
        house.put(name, 0, None)
    return broken


def tell_unheld(house, held):
    told = []
    for guard in range(len(house.told)):
        for name in house.waiting(guard):
            if name not in held:
                house.tell(guard, name)
                told.append((guard, name))
    return told


def break_pairs(house, held):
    pairs = [name for name in held if house.kind(name) == "pair"]
    broken = [name for name in pairs if leads_to_unheld(house, name, held)]
    for name in broken:
        house.put(name, 0, None)
        house.put(name, 1, None)
    return broken


def leads_to_unheld(house, name, held):
    first = box_name(house.field(name, 0))
    return first is not None and first not in held


def drop_unheld(house, held):
    gone = [name for name in house.names() if name not in held]
    for name in gone:
        house.drop(name)
    return gone
