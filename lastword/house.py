"""The house: boxes, slots that hold them, and guards at which they wait."""

from lastword.errors import AlreadyThere, Crowded, NoBox, NoField, NoGuard, NoSlot, NotThere
from lastword.sweeping import sweep
from lastword.things import box_name, box_thing, renamed

GUARDS = 4
FIXED_SIZES = {"weak": 1, "pair": 2}


class House:
    def __init__(self, room, slots=4):
        self.room = room
        self.slots = [None] * slots
        self.last_name = 0
        self.kinds = {}
        self.fields = {}
        self.queues = [[] for guard in range(GUARDS)]
        self.told = [[] for guard in range(GUARDS)]

    def make(self, kind, size=0, slot=0):
        self.check_slot(slot)
        self.make_room(1)
        return self.build([(kind, [None] * FIXED_SIZES.get(kind, size))], slot)

    def names(self):
        return sorted(self.kinds)

    def kind(self, name):
        self.check_box(name)
        return self.kinds[name]

    def size(self, name):
        self.check_box(name)
        return len(self.fields[name])

    def put(self, name, at, thing):
        self.check_box(name)
        self.check_thing(thing)
        self.check_field(name, at)
        self.fields[name][at] = thing

    def field(self, name, at):
        self.check_box(name)
        self.check_field(name, at)
        return self.fields[name][at]

    def swap(self, name, other):
        self.check_box(name)
        self.check_box(other)
        kind = self.kinds[name]
        fields = self.fields[name]
        self.kinds[name] = self.kinds[other]
        self.fields[name] = self.fields[other]
        self.kinds[other] = kind
        self.fields[other] = fields

    def hold(self, slot, thing):
        self.check_slot(slot)
        self.check_thing(thing)
        self.slots[slot] = thing

    def held(self, slot):
        self.check_slot(slot)
        return self.slots[slot]

    def watch(self, guard, name):
        self.check_guard(guard)
        self.check_box(name)
        if name in self.queues[guard]:
            raise AlreadyThere(f"box {name} waits at guard {guard} already")
        self.queues[guard].append(name)

    def leave(self, guard, name):
        self.check_guard(guard)
        self.check_box(name)
        if name not in self.queues[guard]:
            raise NotThere(f"box {name} does not wait at guard {guard}")
        self.queues[guard].remove(name)

    def take(self, guard, slot=0):
        self.check_guard(guard)
        self.check_slot(slot)
        if len(self.told[guard]) == 0:
            raise NotThere(f"guard {guard} has no told box")
        name = self.told[guard].pop(0)
        self.slots[slot] = box_thing(name)
        return name

    def waiting(self, guard):
        self.check_guard(guard)
        return list(self.queues[guard])

    def words(self, guard):
        self.check_guard(guard)
        return list(self.told[guard])

    def has_room(self, count):
        return len(self.kinds) + count <= self.room

    def make_room(self, count, besides=None):
        if not self.has_room(count):
            sweep(self, besides)

    def build(self, draft, slot):
        if not self.has_room(len(draft)):
            raise Crowded("there is no room for so many boxes")
        new_names = [self.last_name + 1 + place for place in range(len(draft))]
        for name, row in zip(new_names, draft):
            self.kinds[name] = row[0]
            self.fields[name] = [renamed(thing, new_names) for thing in row[1]]
        self.last_name = new_names[-1]
        self.slots[slot] = box_thing(new_names[0])
        return new_names[0]

    def tell(self, guard, name):
        self.queues[guard].remove(name)
        self.told[guard].append(name)

    def drop(self, name):
        self.kinds.pop(name)
        self.fields.pop(name)

    def check_slot(self, slot):
        # A number below nought would be taken as counted from the end.
        if slot < 0 or slot >= len(self.slots):
            raise NoSlot(f"no slot {slot}")

    def check_guard(self, guard):
        if guard < 0 or guard >= GUARDS:
            raise NoGuard(f"no guard {guard}")

    def check_box(self, name):
        if name not in self.kinds:
            raise NoBox(f"no box {name}")

    def check_thing(self, thing):
        name = box_name(thing)
        if name is not None:
            self.check_box(name)

    def check_field(self, name, at):
        if at < 0 or at >= len(self.fields[name]):
            raise NoField(f"box {name} has no field {at}")
