"""Things: None, a whole number, or a box told as ("box", name)."""


def box_thing(name):
    return ("box", name)


def box_name(thing):
    if isinstance(thing, tuple):
        return thing[1]
    return None
