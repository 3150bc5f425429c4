import unittest

from helper import B, house_of, picture
from lastword.errors import AlreadyThere, Crowded, NoBox, NoField, NoGuard, NoSlot, NotThere
from lastword.house import House

GREATEST = 10 ** 40 - 1
NO_NUMBERS = (-1, 4, 99)


class Refusing(unittest.TestCase):
    def refused(self, error, house, method, *given):
        before = picture(house)
        with self.subTest(method=method, given=given), self.assertRaises(error):
            getattr(house, method)(*given)
        self.assertEqual(picture(house), before)


class Boxes(Refusing):
    def test_names_count_up_and_none_is_given_twice(self):
        house = House(2)
        self.assertEqual([house.make("plain") for turn in range(5)], [1, 2, 3, 4, 5])
        self.assertEqual(house.names(), [4, 5])

    def test_kinds_and_sizes(self):
        house = House(200)
        for size in range(9):
            name = house.make("plain", size)
            self.assertEqual((house.kind(name), house.size(name)), ("plain", size))
        for kind, size in (("weak", 1), ("pair", 2)):
            for given in (0, 1, 7):
                name = house.make(kind, given)
                self.assertEqual((house.kind(name), house.size(name)), (kind, size))
        self.assertEqual(house.size(house.make("plain")), 0)

    def test_all_fields_hold_none_at_first(self):
        house = House(5)
        for kind, size in (("plain", 8), ("weak", 1), ("pair", 2)):
            name = house.make(kind, 8)
            self.assertEqual([house.field(name, at) for at in range(size)], [None] * size)

    def test_a_field_holds_what_is_put(self):
        house = house_of([("plain", None, None, None), ("plain",)], slots=[B(1), B(2)])
        for thing in (0, -5, GREATEST, -GREATEST, B(1), B(2), None):
            house.put(1, 1, thing)
            self.assertEqual([house.field(1, at) for at in range(3)], [None, thing, None])

    def test_swap_changes_kinds_and_fields_alone(self):
        house = house_of([("pair", 1, B(2)), ("plain", B(1), 4, None), ("weak", B(2))], slots=[B(1)], waits=[(0, 2)])
        house.swap(1, 2)
        self.assertEqual(picture(house)["kinds"], {1: "plain", 2: "pair", 3: "weak"})
        self.assertEqual(picture(house)["fields"], {1: [B(1), 4, None], 2: [1, B(2)], 3: [B(2)]})
        self.assertEqual((house.held(0), house.waiting(0)), (B(1), [2]))
        house.put(1, 1, 9)
        self.assertEqual(house.field(2, 1), B(2))

    def test_a_swap_with_itself_changes_nothing(self):
        house = house_of([("pair", 1, 2)], slots=[B(1)])
        before = picture(house)
        house.swap(1, 1)
        self.assertEqual(picture(house), before)

    def test_names_that_do_not_stand(self):
        house = house_of([("plain", None), ("plain", None)], slots=[B(2)], room=2)
        house.make("plain", 1, 1)
        for name in (0, -1, 1, 4):
            for method, given in (("kind", ()), ("size", ()), ("put", (0, 5)), ("put", (9, 5)), ("field", (0,)),
                                  ("field", (9,)), ("swap", (2,))):
                self.refused(NoBox, house, method, name, *given)
            self.refused(NoBox, house, "swap", 2, name)
            self.refused(NoBox, house, "put", 2, 0, B(name))
            self.refused(NoBox, house, "put", 2, 9, B(name))
            self.refused(NoBox, house, "hold", 0, B(name))
            self.refused(NoBox, house, "watch", 0, name)
            self.refused(NoBox, house, "leave", 0, name)

    def test_fields_that_are_not_there(self):
        house = house_of([("plain", 1, 2), ("weak", 1), ("pair", 1, 2), ("plain",)])
        for name in house.names():
            for at in (-1, house.size(name), 50):
                self.refused(NoField, house, "put", name, at, 5)
                self.refused(NoField, house, "field", name, at)


class Slots(Refusing):
    def test_a_house_has_four_slots_unless_told_otherwise(self):
        self.assertEqual(picture(House(1))["slots"], [None] * 4)
        for slots in (1, 2, 20):
            self.assertEqual(picture(House(1, slots))["slots"], [None] * slots)

    def test_a_slot_holds_a_thing(self):
        house = house_of([("plain",)])
        for thing in (0, GREATEST, B(1), None):
            house.hold(3, thing)
            self.assertEqual(picture(house)["slots"], [None, None, None, thing])

    def test_slots_that_are_not_there(self):
        house = house_of([("plain",)], told=[(0, 1)])
        for slot in NO_NUMBERS:
            self.refused(NoSlot, house, "make", "plain", 0, slot)
            self.refused(NoSlot, house, "hold", slot, None)
            self.refused(NoSlot, house, "hold", slot, B(9))
            self.refused(NoSlot, house, "held", slot)
            self.refused(NoSlot, house, "take", 0, slot)
            self.refused(NoSlot, house, "take", 1, slot)


class Room(Refusing):
    def test_a_full_house_is_swept_and_the_slot_still_holds(self):
        house = House(2)
        house.make("plain")
        house.make("plain")
        self.assertEqual(house.make("plain"), 3)
        self.assertEqual((house.names(), house.held(0)), ([2, 3], B(3)))

    def test_there_is_no_sweep_while_there_is_room(self):
        house = House(3)
        for turn in range(3):
            house.make("plain")
        self.assertEqual(house.names(), [1, 2, 3])

    def test_crowded_and_the_sweep_stays_done(self):
        house = house_of([("weak", B(2)), ("plain",), ("plain",)], slots=[B(1), B(3)], waits=[(1, 2)], room=3)
        with self.assertRaises(Crowded):
            house.make("plain", 0, 1)
        self.assertEqual((house.field(1, 0), house.words(1), house.held(1)), (None, [2], B(3)))
        self.refused(Crowded, house, "make", "plain", 0, 1)
        house.take(1, 1)
        self.assertEqual((house.make("weak", 0, 2), house.names()), (4, [1, 2, 4]))

    def test_a_slot_that_is_not_there_is_refused_ahead_of_the_sweep(self):
        house = house_of([("plain",)], room=1)
        self.refused(NoSlot, house, "make", "plain", 0, 4)


class Guards(Refusing):
    def test_boxes_wait_in_their_order_at_several_guards(self):
        house = house_of([("plain",)] * 3, waits=[(0, 3), (0, 1), (3, 1), (3, 3), (0, 2)])
        self.assertEqual([house.waiting(guard) for guard in range(4)], [[3, 1, 2], [], [], [1, 3]])
        house.leave(0, 1)
        self.assertEqual([house.waiting(guard) for guard in range(4)], [[3, 2], [], [], [1, 3]])
        house.watch(0, 1)
        self.assertEqual(house.waiting(0), [3, 2, 1])

    def test_take_goes_in_the_order_of_telling(self):
        house = house_of([("plain",)] * 3, slots=[5], told=[(2, 3), (2, 1), (1, 1)])
        self.assertEqual((house.take(2), house.held(0), house.words(2)), (3, B(3), [1]))
        self.assertEqual((house.take(2, 3), house.held(3), house.words(2), house.words(1)), (1, B(1), [], [1]))
        self.refused(NotThere, house, "take", 2)

    def test_waiting_once_and_leaving_once(self):
        house = house_of([("plain",)] * 2, waits=[(1, 2)])
        self.refused(AlreadyThere, house, "watch", 1, 2)
        self.refused(NotThere, house, "leave", 1, 1)
        self.refused(NotThere, house, "leave", 0, 2)
        self.refused(NotThere, house, "take", 0)

    def test_guards_that_are_not_there(self):
        house = house_of([("plain",)] * 2, waits=[(0, 1)], told=[(3, 2)])
        for guard in NO_NUMBERS:
            for method, given in (("watch", (1,)), ("watch", (9,)), ("leave", (1,)), ("leave", (9,)), ("take", ()),
                                  ("take", (9,)), ("waiting", ()), ("words", ())):
                self.refused(NoGuard, house, method, guard, *given)


class NewLists(unittest.TestCase):
    def test_a_told_list_may_be_changed(self):
        house = house_of([("plain",)] * 3, slots=[B(3)], waits=[(0, 3)], told=[(1, 2)])
        before = picture(house)
        for told in (house.names(), house.waiting(0), house.words(1)):
            told.append(7)
            told.reverse()
        self.assertEqual(picture(house), before)
