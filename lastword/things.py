"""Things: None, a whole number, or a box told as ("box", name).

A draft tells boxes that have no names yet: a list with one row (kind, things)
for each, where a box among the things is told by the place of its row.
"""


def box_thing(name):
    return ("box", name)


def box_name(thing):
    if isinstance(thing, tuple):
        return thing[1]
    return None


def renamed(thing, new_names):
    name = box_name(thing)
    if name is None:
        return thing
    return box_thing(new_names[name])
