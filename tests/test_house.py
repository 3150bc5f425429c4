import unittest

from helper import B, GREATEST, Refusing, house_of, next_name, outcome, picture, slots_of
from lastword.errors import AlreadyThere, Crowded, NoBox, NoField, NoGuard, NoSlot, NotThere
from lastword.house import House
from lastword.living import living
from lastword.sweeping import sweep

NO_NUMBERS = (-1, 4, 5, 99, -99, GREATEST, -GREATEST)


class Boxes(Refusing):
    def test_names_count_up_and_none_is_given_twice(self):
        house = House(2)
        self.assertEqual([house.make("plain") for turn in range(5)], [1, 2, 3, 4, 5])
        self.assertEqual(house.names(), [4, 5])

    def test_names_rise_from_one(self):
        house = House(200)
        self.assertEqual(house.names(), [])
        for turn in range(12):
            house.make("weak")
        self.assertEqual(house.names(), list(range(1, 13)))

    def test_the_name_of_the_last_box_made_is_not_given_anew_when_it_is_gone(self):
        house = House(3)
        self.assertEqual(house.make("plain"), 1)
        house.hold(0, None)
        sweep(house)
        self.assertEqual((house.names(), house.make("plain"), house.names()), ([], 2, [2]))

    def test_kinds_and_sizes(self):
        house = House(200)
        for size in range(9):
            name = house.make("plain", size)
            self.assertEqual((house.kind(name), house.size(name)), ("plain", size))
        for kind, size in (("weak", 1), ("pair", 2)):
            for given in (0, 1, 7):
                name = house.make(kind, given)
                self.assertEqual((house.kind(name), house.size(name)), (kind, size))
        self.assertEqual(house.size(house.make("plain")), 0)

    def test_arguments_by_their_names(self):
        house = House(room=3, slots=2)
        self.assertEqual(house.make(kind="plain", size=3, slot=1), 1)
        self.assertEqual((house.size(name=1), house.kind(name=1), house.held(slot=1)), (3, "plain", B(1)))
        house.put(name=1, at=2, thing=7)
        self.assertEqual(house.field(name=1, at=2), 7)
        house.swap(name=1, other=1)
        house.watch(guard=2, name=1)
        house.leave(guard=2, name=1)
        house.watch(guard=3, name=1)
        house.hold(slot=1, thing=None)
        sweep(house, besides=None)
        self.assertEqual((house.waiting(guard=3), house.words(guard=3)), ([], [1]))
        self.assertEqual((house.take(guard=3, slot=1), house.held(1)), (1, B(1)))

    def test_all_fields_hold_none_at_first(self):
        house = House(5)
        for kind, size in (("plain", 8), ("weak", 1), ("pair", 2)):
            name = house.make(kind, 8)
            self.assertEqual([house.field(name, at) for at in range(size)], [None] * size)

    def test_a_new_box_is_held_by_its_slot_alone(self):
        house = house_of([("plain",)], slots=[7, B(1), -7, None])
        self.assertEqual((house.make("pair"), slots_of(house)), (2, [B(2), B(1), -7, None]))
        self.assertEqual((house.make("weak", 0, 2), slots_of(house)), (3, [B(2), B(1), B(3), None]))

    def test_a_field_holds_what_is_put(self):
        house = house_of([("plain", None, None, None), ("plain",)], slots=[B(1), B(2)])
        for thing in (0, -5, GREATEST, -GREATEST, B(1), B(2), None):
            house.put(1, 1, thing)
            self.assertEqual([house.field(1, at) for at in range(3)], [None, thing, None])

    def test_every_kind_takes_every_thing_in_each_field(self):
        house = house_of([("plain",) + (None,) * 8, ("weak", None), ("pair", None, None)])
        for name in house.names():
            for at in range(house.size(name)):
                for thing in (B(1), B(2), B(3), 12, None):
                    house.put(name, at, thing)
                    self.assertEqual(house.field(name, at), thing)

    def test_two_new_boxes_share_no_field(self):
        house = House(3)
        house.make("plain", 2)
        house.make("plain", 2)
        house.put(1, 0, 5)
        self.assertEqual([house.field(2, 0), house.field(1, 1)], [None, None])

    def test_what_lies_somewhat_beyond_the_bounds_is_not_refused(self):
        house = House(230, 25)
        for turn in range(230):
            house.make("plain", 11, 24)
        house.put(230, 10, 10 ** 45)
        self.assertEqual((len(house.names()), house.field(230, 10)), (230, 10 ** 45))
        self.assertIs(outcome(House(0).make, "plain"), Crowded)


class NoSuchBoxes(Refusing):
    def test_names_that_do_not_stand(self):
        house = house_of([("plain", None), ("plain", None)], slots=[B(2)], room=2)
        house.make("plain", 1, 1)
        for name in (0, -1, -2, 1, 4, 5, 999, GREATEST, -GREATEST):
            for deed, given in ((house.kind, ()), (house.size, ()), (house.put, (0, 5)), (house.put, (9, 5)),
                                (house.put, (0, B(2))), (house.put, (-1, B(name))), (house.field, (0,)),
                                (house.field, (9,)), (house.field, (-1,)), (house.swap, (2,)), (house.swap, (name,))):
                self.refused(NoBox, house, deed, name, *given)
            self.refused(NoBox, house, house.swap, 2, name)
            self.refused(NoBox, house, house.put, 2, 0, B(name))
            self.refused(NoBox, house, house.hold, 0, B(name))
            self.refused(NoBox, house, house.watch, 0, name)

    def test_a_thing_that_does_not_stand_is_refused_ahead_of_a_field_that_is_not_there(self):
        house = house_of([("plain", None), ("plain",)], slots=[B(1)])
        for at in (-1, 1, 99):
            self.refused(NoBox, house, house.put, 1, at, B(3))
            self.refused(NoField, house, house.put, 1, at, B(2))

    def test_a_box_that_does_not_stand_is_refused_ahead_of_its_not_waiting(self):
        house = house_of([("plain",)] * 2, waits=[(0, 1)])
        self.refused(NoBox, house, house.leave, 0, 3)
        self.refused(NoBox, house, house.leave, 1, 0)

    def test_a_gone_box_can_not_be_put_anywhere(self):
        house = house_of([("plain", None), ("plain",)], slots=[B(1)])
        house.put(1, 0, B(2))
        house.put(1, 0, None)
        sweep(house)
        self.refused(NoBox, house, house.put, 1, 0, B(2))
        self.refused(NoBox, house, house.hold, 3, B(2))

    def test_fields_that_are_not_there(self):
        house = house_of([("plain", 1, 2), ("weak", 1), ("pair", 1, 2), ("plain",), ("plain",) + (3,) * 8])
        for name in house.names():
            size = house.size(name)
            for at in (-1, -size, -size - 1, size, size + 1, 50, GREATEST, -GREATEST):
                if not 0 <= at < size:
                    self.refused(NoField, house, house.put, name, at, 5)
                    self.refused(NoField, house, house.put, name, at, B(1))
                    self.refused(NoField, house, house.field, name, at)


class Swaps(Refusing):
    def test_kinds_and_fields_alone_change(self):
        house = house_of([("pair", 1, B(2)), ("plain", B(1), 4, None), ("weak", B(2))], slots=[B(1)], waits=[(0, 2)])
        house.swap(1, 2)
        self.assertEqual(picture(house)["kinds"], {1: "plain", 2: "pair", 3: "weak"})
        self.assertEqual(picture(house)["fields"], {1: [B(1), 4, None], 2: [1, B(2)], 3: [B(2)]})
        self.assertEqual((house.held(0), house.waiting(0)), (B(1), [2]))
        house.put(1, 1, 9)
        self.assertEqual(house.field(2, 1), B(2))

    def test_boxes_of_every_two_kinds(self):
        rows = [("plain",), ("plain", 1, B(9), None), ("plain",) + (3,) * 8, ("weak", B(9)), ("pair", B(9), -4)]
        for row in rows:
            for other in rows:
                with self.subTest(row=row, other=other):
                    house = house_of([row] + [("plain",)] * 7 + [other])
                    before = picture(house)
                    house.swap(1, 9)
                    seen = picture(house)
                    self.assertEqual((seen["kinds"][1], seen["fields"][1]), (other[0], list(other[1:])))
                    self.assertEqual((seen["kinds"][9], seen["fields"][9]), (row[0], list(row[1:])))
                    house.swap(9, 1)
                    self.assertEqual(picture(house), before)

    def test_boxes_that_wait_and_are_told_and_held(self):
        house = house_of([("plain", 1), ("weak", 2), ("pair", 3, 4)], slots=[None, B(1)], told=[(2, 3)],
                         waits=[(0, 1), (1, 1), (1, 3)])
        before = picture(house)
        house.swap(1, 2)
        house.swap(2, 3)
        seen = picture(house)
        for part in ("slots", "waiting", "told", "next"):
            self.assertEqual(seen[part], before[part])
        self.assertEqual(seen["kinds"], {1: "weak", 2: "pair", 3: "plain"})
        self.assertEqual(seen["fields"], {1: [2], 2: [3, 4], 3: [1]})

    def test_who_is_held_goes_by_the_new_fields(self):
        house = house_of([("plain", B(3)), ("plain", B(4)), ("plain",), ("plain",)], slots=[B(1)])
        house.swap(1, 2)
        self.assertEqual(living(house), [1, 4])
        self.assertEqual(sweep(house)[0], [2, 3])

    def test_with_itself_nothing_changes(self):
        house = house_of([("pair", 1, B(1)), ("plain", B(1))], slots=[B(1)], waits=[(0, 1)])
        before = picture(house)
        house.swap(1, 1)
        house.swap(2, 2)
        self.assertEqual(picture(house), before)
        house.put(1, 0, 8)
        self.assertEqual([house.field(1, 0), house.field(1, 1), house.field(2, 0)], [8, B(1), B(1)])


class Slots(Refusing):
    def test_a_house_has_four_slots_unless_told_otherwise(self):
        self.assertEqual(slots_of(House(1)), [None] * 4)
        for slots in (1, 2, 20):
            self.assertEqual(slots_of(House(1, slots)), [None] * slots)

    def test_a_slot_holds_a_thing(self):
        house = house_of([("plain",)])
        for thing in (0, GREATEST, -GREATEST, B(1), None):
            house.hold(3, thing)
            self.assertEqual(slots_of(house), [None, None, None, thing])

    def test_slots_that_are_not_there(self):
        house = house_of([("plain",)], told=[(0, 1)])
        for slot in NO_NUMBERS:
            self.refused(NoSlot, house, house.make, "plain", 0, slot)
            self.refused(NoSlot, house, house.hold, slot, None)
            self.refused(NoSlot, house, house.hold, slot, B(9))
            self.refused(NoSlot, house, house.held, slot)
            self.refused(NoSlot, house, house.take, 0, slot)
            self.refused(NoSlot, house, house.take, 1, slot)

    def test_just_beyond_one_slot_and_twenty(self):
        for slots in (1, 20):
            house = House(3, slots)
            self.assertEqual(house.make("plain", 0, slots - 1), 1)
            for slot in (-1, slots, slots + 1, -slots):
                self.refused(NoSlot, house, house.make, "weak", 0, slot)
                self.refused(NoSlot, house, house.hold, slot, 4)
                self.refused(NoSlot, house, house.held, slot)


class Room(Refusing):
    def test_a_full_house_is_swept_and_the_slot_still_holds(self):
        house = House(2)
        house.make("plain")
        house.make("plain")
        self.assertEqual(house.make("plain"), 3)
        self.assertEqual((house.names(), house.held(0)), ([2, 3], B(3)))

    def test_there_is_no_sweep_while_there_is_room(self):
        house = House(3)
        for turn in range(3):
            house.make("plain")
        self.assertEqual(house.names(), [1, 2, 3])

    def test_the_sweep_has_all_its_steps(self):
        boxes = [("weak", B(4)), ("pair", B(4), 7), ("plain",), ("plain",)]
        house = house_of(boxes, slots=[B(1), B(2)], waits=[(3, 3)], room=4)
        self.assertEqual(house.make("pair", 0, 2), 5)
        self.assertEqual(picture(house)["fields"], {1: [None], 2: [None, None], 3: [], 5: [None, None]})
        self.assertEqual((house.words(3), house.held(2)), ([3], B(5)))

    def test_crowded_and_the_sweep_stays_done(self):
        house = house_of([("weak", B(2)), ("plain",), ("plain",)], slots=[B(1), B(3)], waits=[(1, 2)], room=3)
        self.assertIs(outcome(house.make, "plain", 0, 1), Crowded)
        self.assertEqual((house.field(1, 0), house.words(1), house.held(1)), (None, [2], B(3)))
        self.refused(Crowded, house, house.make, "plain", 0, 1)
        house.take(1, 1)
        self.assertEqual((house.make("weak", 0, 2), house.names()), (4, [1, 2, 4]))

    def test_a_box_that_only_its_own_slot_holds_is_not_gone_in_that_sweep(self):
        house = House(1, 1)
        self.assertEqual(house.make("plain", 1), 1)
        self.refused(Crowded, house, house.make, "plain")
        house.hold(0, None)
        self.assertEqual((house.make("weak"), house.names()), (2, [2]))

    def test_refusals_use_no_names_up(self):
        house = House(2)
        house.make("plain", 0, 0)
        house.make("plain", 0, 1)
        for turn in range(3):
            self.refused(Crowded, house, house.make, "plain", 0, 2)
            self.refused(NoSlot, house, house.make, "plain", 0, 4)
        house.hold(1, None)
        self.assertEqual((house.make("plain", 0, 1), house.names()), (3, [1, 3]))

    def test_a_slot_that_is_not_there_is_refused_ahead_of_the_sweep(self):
        house = house_of([("plain",)], room=1)
        self.refused(NoSlot, house, house.make, "plain", 0, 4)
        house = house_of([("plain",)], slots=[B(1)], room=1)
        self.refused(NoSlot, house, house.make, "plain", 0, -1)

    def test_two_hundred_boxes(self):
        house = House(200)
        house.make("plain", 1, 1)
        for name in range(1, 200):
            house.put(name, 0, B(house.make("plain", 1)))
        self.refused(Crowded, house, house.make, "plain")
        house.put(1, 0, None)
        self.assertEqual((house.make("plain"), house.names()), (201, [1, 200, 201]))


class Guards(Refusing):
    def test_nobody_waits_or_is_told_at_first(self):
        house = House(3)
        self.assertEqual([house.waiting(guard) + house.words(guard) for guard in range(4)], [[]] * 4)

    def test_boxes_wait_in_their_order_at_several_guards(self):
        house = house_of([("plain",)] * 3, waits=[(0, 3), (0, 1), (3, 1), (3, 3), (0, 2)])
        self.assertEqual([house.waiting(guard) for guard in range(4)], [[3, 1, 2], [], [], [1, 3]])
        house.leave(0, 1)
        self.assertEqual([house.waiting(guard) for guard in range(4)], [[3, 2], [], [], [1, 3]])
        house.watch(0, 1)
        self.assertEqual(house.waiting(0), [3, 2, 1])

    def test_take_goes_in_the_order_of_telling(self):
        house = house_of([("plain",)] * 3, slots=[5], told=[(2, 3), (2, 1), (1, 1)])
        self.assertEqual((house.take(2), house.held(0), house.words(2)), (3, B(3), [1]))
        self.assertEqual((house.take(2, 3), house.held(3), house.words(2), house.words(1)), (1, B(1), [], [1]))
        self.refused(NotThere, house, house.take, 2)

    def test_waiting_once_and_leaving_once(self):
        house = house_of([("plain",)] * 2, waits=[(1, 2)])
        self.refused(AlreadyThere, house, house.watch, 1, 2)
        self.refused(NotThere, house, house.leave, 1, 1)
        self.refused(NotThere, house, house.leave, 0, 2)
        self.refused(NotThere, house, house.take, 0)
        house.leave(1, 2)
        self.refused(NotThere, house, house.leave, 1, 2)

    def test_a_told_box_waits_no_more_and_may_wait_anew(self):
        house = house_of([("plain",)], told=[(1, 1)])
        self.refused(NotThere, house, house.leave, 1, 1)
        house.watch(1, 1)
        self.assertEqual((house.waiting(1), house.words(1)), ([1], [1]))
        self.refused(AlreadyThere, house, house.watch, 1, 1)

    def test_guards_that_are_not_there(self):
        house = house_of([("plain",)] * 2, waits=[(0, 1)], told=[(3, 2)])
        for guard in NO_NUMBERS:
            for deed, given in ((house.watch, (1,)), (house.watch, (9,)), (house.leave, (1,)), (house.leave, (9,)),
                                (house.take, ()), (house.take, (9,)), (house.waiting, ()), (house.words, ())):
                self.refused(NoGuard, house, deed, guard, *given)


class OverTheHouse(unittest.TestCase):
    def test_a_told_list_may_be_changed(self):
        house = house_of([("plain",)] * 3, slots=[B(3)], waits=[(0, 3)], told=[(1, 2)])
        before = picture(house)
        for told in (house.names(), house.waiting(0), house.words(1)):
            told.append(7)
            told.reverse()
        self.assertEqual(picture(house), before)

    def test_no_two_told_lists_are_one(self):
        house = House(3)
        lists = [deed() for deed in [house.names] * 2]
        lists += [deed(guard) for deed in [house.waiting, house.words] * 2 for guard in range(4)]
        self.assertEqual(len({id(told) for told in lists}), 18)

    def test_two_houses_know_nothing_of_one_another(self):
        house, other = House(2, 2), House(2, 2)
        before = picture(other)
        house.make("plain", 2)
        house.put(1, 0, 5)
        house.hold(1, 9)
        house.watch(0, 1)
        self.assertEqual(picture(other), before)
        self.assertEqual((other.make("weak"), other.kind(1), next_name(house)), (1, "weak", 2))
