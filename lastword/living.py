"""Who is held, and the paper that shows it."""

from lastword.things import box_name


def living(house, besides=None):
    return sorted([row[0] for row in paper(house, besides)])


def paper(house, besides=None):
    search = Search(house)
    search.add_slots()
    search.add_told()
    if besides is not None:
        search.add_row((besides, "besides"))
    search.follow_all()
    return search.rows


class Search:
    def __init__(self, house):
        self.house = house
        self.rows = []
        self.listed = {}
        # By the name of a key that is not listed: the held pairs that have it,
        # whose values wait until the key comes to be listed.
        self.locked = {}

    def add_row(self, row):
        if row[0] not in self.listed:
            self.listed[row[0]] = True
            self.rows.append(row)

    def add_slots(self):
        for slot, thing in enumerate(self.house.slots):
            name = box_name(thing)
            if name is not None:
                self.add_row((name, "slot", slot))

    def add_told(self):
        for guard, names in enumerate(self.house.told):
            for name in names:
                self.add_row((name, "told", guard))

    def follow_all(self):
        # New rows go to the end alone, so a holder is always ahead of what it
        # holds, and no chain of boxes is too long for the search.
        at = 0
        while at < len(self.rows):
            self.follow(self.rows[at][0])
            at += 1

    def follow(self, name):
        for holder in self.locked.get(name, []):
            self.add_value(holder)
        kind = self.house.kind(name)
        if kind == "plain":
            self.add_fields(name)
        if kind == "pair":
            self.follow_pair(name)

    def add_fields(self, holder):
        for at in range(self.house.size(holder)):
            name = box_name(self.house.field(holder, at))
            if name is not None:
                self.add_row((name, "plain", holder, at))

    def follow_pair(self, holder):
        key = box_name(self.house.field(holder, 0))
        if key is None or key in self.listed:
            self.add_value(holder)
        else:
            self.locked.setdefault(key, []).append(holder)

    def add_value(self, holder):
        name = box_name(self.house.field(holder, 1))
        if name is not None:
            self.add_row((name, "pair", holder))
