import unittest

from helper import B, any_house, house_of, picture, swept
from lastword.errors import HouseError, NoBox
from lastword.house import House
from lastword.living import living
from lastword.sweeping import sweep

NOTHING = ([], [], [], [])


class Swept(unittest.TestCase):
    def sweeps(self, house, gone=(), weak=(), pairs=(), told=(), besides=None):
        """The sweep tells just this, and leaves the house as the points say."""
        seen = picture(house)
        expected = (list(gone), list(weak), list(pairs), list(told))
        self.assertEqual(swept(seen, besides), expected)
        answer = sweep(house, besides)
        self.assertIsInstance(answer, tuple)
        self.assertEqual(answer, expected)
        self.assertEqual(picture(house), seen)


class Gone(Swept):
    def test_an_empty_house(self):
        self.sweeps(House(3))

    def test_boxes_that_nobody_holds_are_gone(self):
        house = house_of([("plain", B(2)), ("plain",), ("plain", B(1)), ("weak", None), ("pair", 1, 2)], slots=[B(1)])
        self.sweeps(house, gone=[3, 4, 5])
        self.assertEqual(house.names(), [1, 2])

    def test_rings_that_nobody_holds_are_gone(self):
        house = house_of([("plain", B(2)), ("plain", B(1)), ("plain", B(3)), ("plain",)], slots=[None, B(4)])
        self.sweeps(house, gone=[1, 2, 3])

    def test_no_box_of_a_gone_name_stands_any_more(self):
        house = house_of([("plain",), ("plain",)], slots=[B(2)])
        sweep(house)
        for ask in (lambda: house.kind(1), lambda: house.size(1), lambda: house.hold(0, B(1)),
                    lambda: house.watch(0, 1), lambda: house.put(2, 0, B(1)), lambda: sweep(house, 1)):
            self.assertRaises(NoBox, ask)
        self.assertEqual(house.make("plain"), 3)

    def test_what_is_held_stays_as_it_was(self):
        boxes = [("plain", B(2), 5, None), ("weak", B(1)), ("pair", B(1), B(4)), ("plain", B(3), B(2))]
        house = house_of(boxes, slots=[B(1), B(3), 8], waits=[(0, 1), (3, 4)])
        before = picture(house)
        self.sweeps(house)
        self.assertEqual(picture(house), before)


class WeakBoxes(Swept):
    def test_a_held_weak_box_is_broken(self):
        house = house_of([("weak", B(2)), ("plain",)], slots=[B(1)])
        self.sweeps(house, gone=[2], weak=[1])
        self.assertIsNone(house.field(1, 0))

    def test_a_weak_box_that_is_gone_by_then_is_told_too(self):
        house = house_of([("weak", B(2)), ("plain",), ("weak", B(3))])
        self.sweeps(house, gone=[1, 2, 3], weak=[1, 3])

    def test_a_weak_box_that_looks_at_a_held_box_stays_whole(self):
        house = house_of([("weak", B(2)), ("plain",), ("weak", B(3)), ("weak", B(2))], slots=[B(1), B(2), B(3)])
        self.sweeps(house, gone=[4])
        self.assertEqual([house.field(1, 0), house.field(3, 0)], [B(2), B(3)])

    def test_a_weak_box_with_none_or_a_number_is_not_broken(self):
        house = house_of([("weak", None), ("weak", 3), ("plain",), ("weak", 3)], slots=[B(1), B(2)])
        self.sweeps(house, gone=[3, 4])
        self.assertEqual(house.field(2, 0), 3)

    def test_one_that_looks_at_a_box_told_by_that_same_sweep_is_broken(self):
        house = house_of([("weak", B(2)), ("plain",)], slots=[B(1)], waits=[(0, 2)])
        self.sweeps(house, weak=[1], told=[(0, 2)])
        self.assertIsNone(house.field(1, 0))
        self.assertEqual(house.take(0), 2)

    def test_one_that_looks_at_what_a_told_box_holds_is_broken(self):
        house = house_of([("weak", B(3)), ("plain", B(3)), ("plain",)], slots=[B(1)], waits=[(3, 2)])
        self.sweeps(house, weak=[1], told=[(3, 2)])
        self.assertEqual(house.names(), [1, 2, 3])

    def test_one_that_looks_at_a_box_told_earlier_stays_whole(self):
        house = house_of([("weak", B(2)), ("plain",)], slots=[B(1)], told=[(0, 2)])
        self.sweeps(house)
        self.assertEqual(house.field(1, 0), B(2))

    def test_a_weak_box_that_is_told_is_broken_ahead(self):
        house = house_of([("weak", B(1)), ("weak", B(3)), ("plain",)], waits=[(1, 1), (0, 2)])
        self.sweeps(house, gone=[3], weak=[1, 2], told=[(0, 2), (1, 1)])
        self.assertEqual([house.field(1, 0), house.field(2, 0)], [None, None])

    def test_they_rise(self):
        house = house_of([("plain", B(4), B(3), B(2)), ("weak", B(5)), ("weak", B(5)), ("weak", B(5)), ("plain",)],
                         slots=[B(1)])
        self.sweeps(house, gone=[5], weak=[2, 3, 4])


class Telling(Swept):
    def test_a_box_that_is_held_waits_on(self):
        house = house_of([("plain", B(2)), ("plain",)], slots=[B(1)], waits=[(0, 2), (0, 1)])
        self.sweeps(house)
        self.assertEqual(house.waiting(0), [2, 1])

    def test_a_box_that_nobody_holds_is_told_and_waits_no_more(self):
        house = house_of([("plain",), ("plain",)], waits=[(2, 2)])
        self.sweeps(house, gone=[1], told=[(2, 2)])
        self.assertEqual((house.waiting(2), house.words(2)), ([], [2]))

    def test_guard_by_guard_in_the_order_of_waiting(self):
        waits = [(3, 1), (1, 4), (0, 5), (1, 2), (3, 3), (0, 1), (1, 3)]
        house = house_of([("plain",)] * 5, waits=waits)
        told = [(0, 5), (0, 1), (1, 4), (1, 2), (1, 3), (3, 1), (3, 3)]
        self.sweeps(house, told=told)
        self.assertEqual([house.words(guard) for guard in range(4)], [[5, 1], [4, 2, 3], [], [1, 3]])

    def test_held_ones_between_wait_on_in_their_order(self):
        waits = [(1, 4), (1, 1), (1, 3), (1, 2), (1, 5)]
        house = house_of([("plain",)] * 5, slots=[B(1), B(2)], waits=waits)
        self.sweeps(house, told=[(1, 4), (1, 3), (1, 5)])
        self.assertEqual(house.waiting(1), [1, 2])

    def test_a_box_that_waits_at_several_guards_is_told_at_each(self):
        house = house_of([("plain",)], waits=[(3, 1), (0, 1), (2, 1)])
        self.sweeps(house, told=[(0, 1), (2, 1), (3, 1)])
        self.assertEqual([house.words(guard) for guard in range(4)], [[1], [], [1], [1]])
        house.take(0)
        house.hold(0, None)
        self.sweeps(house)
        house.take(2)
        house.take(3)
        house.hold(0, None)
        self.sweeps(house, gone=[1])

    def test_a_box_held_by_another_that_is_told_is_told_too(self):
        # Both were not held ahead of the sweep, whichever is told first.
        house = house_of([("plain", B(2)), ("plain",)], waits=[(0, 1), (0, 2)])
        self.sweeps(house, told=[(0, 1), (0, 2)])
        house = house_of([("plain", B(2)), ("plain",)], waits=[(1, 2), (0, 1)])
        self.sweeps(house, told=[(0, 1), (1, 2)])

    def test_they_come_behind_those_told_already(self):
        house = house_of([("plain",)] * 4, told=[(0, 4), (0, 3)], waits=[(0, 2), (0, 1)])
        self.sweeps(house, told=[(0, 2), (0, 1)])
        self.assertEqual(house.words(0), [4, 3, 2, 1])
        self.assertEqual([house.take(0) for turn in range(4)], [4, 3, 2, 1])

    def test_a_told_box_that_waits_anew_is_not_told_till_it_is_taken(self):
        house = house_of([("plain",)], told=[(0, 1)], waits=[(0, 1), (1, 1)])
        self.sweeps(house)
        house.take(0, 2)
        self.sweeps(house)
        house.hold(2, None)
        self.sweeps(house, told=[(0, 1), (1, 1)])

    def test_a_box_that_left_is_gone(self):
        house = house_of([("plain",), ("plain",)], waits=[(0, 1), (0, 2)])
        house.leave(0, 1)
        self.sweeps(house, gone=[1], told=[(0, 2)])

    def test_what_a_told_box_holds_stays(self):
        boxes = [("plain", B(2)), ("pair", None, B(3)), ("plain", B(1)), ("plain",)]
        house = house_of(boxes, waits=[(0, 1)])
        self.sweeps(house, gone=[4], told=[(0, 1)])
        self.assertEqual(house.field(1, 0), B(2))


class BrokenPairs(Swept):
    def test_a_held_pair_whose_key_is_not_held_is_broken(self):
        house = house_of([("pair", B(2), B(3)), ("plain",), ("plain",)], slots=[B(1)])
        self.sweeps(house, gone=[2, 3], pairs=[1])
        self.assertEqual([house.field(1, 0), house.field(1, 1)], [None, None])

    def test_its_value_becomes_none_whatever_it_was(self):
        for value in (7, None, B(3), B(1), B(2)):
            with self.subTest(value):
                house = house_of([("pair", B(2), value), ("plain",), ("plain",)], slots=[B(1), B(3)])
                self.sweeps(house, gone=[2], pairs=[1])
                self.assertEqual([house.field(1, 0), house.field(1, 1)], [None, None])

    def test_a_pair_that_is_not_held_is_not_broken_but_gone(self):
        house = house_of([("pair", B(2), B(3)), ("plain",), ("plain",)])
        self.sweeps(house, gone=[1, 2, 3])

    def test_a_pair_whose_key_is_held_or_no_box_stays_whole(self):
        boxes = [("pair", B(4), B(5)), ("pair", 5, B(6)), ("pair", None, B(7))] + [("plain",)] * 5
        house = house_of(boxes, slots=[B(1), B(2), B(3), B(4)])
        self.sweeps(house, gone=[8])
        self.assertEqual([house.field(1, 1), house.field(2, 1), house.field(3, 1)], [B(5), B(6), B(7)])

    def test_a_key_held_anew_since_it_was_told_keeps_the_pair_whole(self):
        house = house_of([("pair", B(2), B(3)), ("plain",), ("plain",)], slots=[B(1)], waits=[(0, 2)])
        self.sweeps(house, told=[(0, 2)])
        self.assertEqual([house.field(1, 0), house.field(1, 1)], [B(2), B(3)])

    def test_a_key_held_by_a_box_that_was_told_keeps_the_pair_whole(self):
        boxes = [("pair", B(2), B(3)), ("plain",), ("plain",), ("plain", B(2))]
        house = house_of(boxes, slots=[B(1)], waits=[(1, 4)])
        self.sweeps(house, told=[(1, 4)])

    def test_a_pair_held_anew_since_it_was_told_is_broken(self):
        house = house_of([("pair", B(2), B(3)), ("plain",), ("plain",)], waits=[(2, 1)])
        self.sweeps(house, gone=[2, 3], pairs=[1], told=[(2, 1)])

    def test_a_value_that_waits_is_told_though_its_key_is_held_anew(self):
        house = house_of([("pair", B(2), B(3)), ("plain",), ("plain",)], slots=[B(1)], waits=[(0, 2), (1, 3)])
        self.sweeps(house, told=[(0, 2), (1, 3)])

    def test_a_told_value_outlives_its_broken_pair(self):
        house = house_of([("pair", B(2), B(3)), ("plain",), ("plain",)], slots=[B(1)], waits=[(0, 3)])
        self.sweeps(house, gone=[2], pairs=[1], told=[(0, 3)])
        self.assertEqual(house.names(), [1, 3])

    def test_they_rise(self):
        boxes = [("plain", B(4), B(2), B(3))] + [("pair", B(5), None)] * 3 + [("plain",)]
        self.sweeps(house_of(boxes, slots=[B(1)]), gone=[5], pairs=[2, 3, 4])

    def test_pairs_that_hang_on_one_another_break_together(self):
        boxes = [("pair", B(3), B(4)), ("pair", B(4), B(3)), ("plain",), ("plain",)]
        self.sweeps(house_of(boxes, slots=[B(1), B(2)]), gone=[3, 4], pairs=[1, 2])


class AllSteps(Swept):
    def test_each_step_in_one_sweep(self):
        boxes = [
            ("plain", B(2), B(3), B(4)),
            ("weak", B(5)),
            ("pair", B(5), B(7)),
            ("pair", B(6), B(8)),
            ("plain",),
            ("plain",),
            ("plain",),
            ("plain",),
            ("weak", B(6)),
        ]
        house = house_of(boxes, slots=[B(1)], waits=[(2, 5), (1, 1)])
        self.sweeps(house, gone=[6, 8, 9], weak=[2, 9], pairs=[4], told=[(2, 5)])
        self.assertEqual(house.field(3, 1), B(7))

    def test_the_four_lists_stand_in_their_places(self):
        boxes = [("pair", B(2), None), ("plain",), ("weak", B(2)), ("plain",)]
        house = house_of(boxes, slots=[B(1), B(3)], waits=[(3, 4)])
        self.assertEqual(sweep(house), ([2], [3], [1], [(3, 4)]))

    def test_a_second_sweep_with_nothing_between_does_nothing(self):
        boxes = [("weak", B(2)), ("plain",), ("pair", B(4), B(2)), ("plain",), ("plain",)]
        house = house_of(boxes, slots=[B(1), B(3)], waits=[(0, 5), (1, 5), (1, 3)])
        self.assertEqual(sweep(house), ([2, 4], [1], [3], [(0, 5), (1, 5)]))
        before = picture(house)
        self.assertEqual(sweep(house), NOTHING)
        self.assertEqual(picture(house), before)


class Besides(Swept):
    def test_it_stays_and_keeps_what_it_holds(self):
        house = house_of([("plain", B(2)), ("plain",), ("plain",)])
        self.sweeps(house, gone=[3], besides=1)
        self.sweeps(house, gone=[1, 2])

    def test_weak_boxes_that_look_at_it_stay_whole(self):
        house = house_of([("weak", B(2)), ("plain", B(3)), ("plain",), ("weak", B(3))], slots=[B(1), B(4)])
        self.sweeps(house, besides=2)
        self.assertEqual([house.field(1, 0), house.field(4, 0)], [B(2), B(3)])
        self.sweeps(house, gone=[2, 3], weak=[1, 4])

    def test_it_is_not_told_and_waits_on(self):
        house = house_of([("plain", B(2)), ("plain",), ("plain",)], waits=[(0, 1), (1, 2), (1, 3)])
        self.sweeps(house, told=[(1, 3)], besides=1)
        self.assertEqual([house.waiting(0), house.waiting(1)], [[1], [2]])
        self.sweeps(house, told=[(0, 1), (1, 2)])

    def test_pairs_that_have_it_for_a_key_stay_whole(self):
        house = house_of([("pair", B(2), B(3)), ("plain",), ("plain",)], slots=[B(1)])
        self.sweeps(house, besides=2)
        self.sweeps(house, gone=[2, 3], pairs=[1])

    def test_a_pair_held_besides_is_broken_like_another(self):
        house = house_of([("pair", B(2), B(3)), ("plain",), ("plain",)])
        self.sweeps(house, gone=[2, 3], pairs=[1], besides=1)

    def test_a_weak_box_held_besides_is_broken_like_another(self):
        house = house_of([("weak", B(2)), ("plain",)])
        self.sweeps(house, gone=[2], weak=[1], besides=1)

    def test_a_box_that_is_held_anyhow(self):
        house = house_of([("plain", B(2)), ("plain",), ("plain",)], slots=[B(1)])
        self.sweeps(house, gone=[3], besides=2)

    def test_no_slot_holds_it_behind_the_sweep(self):
        house = house_of([("plain",)])
        sweep(house, besides=1)
        self.assertEqual(living(house), [])
        self.assertEqual([house.held(slot) for slot in range(4)], [None] * 4)

    def test_one_that_does_not_stand_is_refused_and_nothing_changes(self):
        boxes = [("weak", B(2)), ("plain",), ("pair", B(2), B(4)), ("plain",), ("plain",), ("plain",)]
        house = house_of(boxes, slots=[B(1), B(3)], waits=[(0, 5)])
        sweep(house, 2)
        house.make("plain", 0, 2)
        house.hold(2, None)
        before = picture(house)
        for besides in (0, -1, 6, 8, 10 ** 40 - 1):
            with self.subTest(besides):
                self.assertRaises(NoBox, sweep, house, besides)
                self.assertRaises(HouseError, sweep, house, besides=besides)
                self.assertEqual(picture(house), before)
        self.sweeps(house, gone=[2, 4, 7], weak=[1], pairs=[3])

    def test_an_empty_house_refuses_every_one(self):
        self.assertRaises(NoBox, sweep, House(3), 1)


class NewLists(Swept):
    def test_a_told_list_may_be_changed(self):
        boxes = [("weak", B(2)), ("plain",), ("pair", B(2), None), ("plain",)]
        house = house_of(boxes, slots=[B(1), B(3)], waits=[(0, 4)])
        answer = sweep(house)
        before = picture(house)
        for told in answer:
            told.append(77)
        self.assertEqual(picture(house), before)
        self.assertEqual(sweep(house), NOTHING)

    def test_no_two_told_lists_are_one(self):
        house = House(3)
        lists = list(sweep(house)) + list(sweep(house))
        self.assertEqual(len({id(told) for told in lists}), 8)

    def test_two_houses_know_nothing_of_one_another(self):
        boxes = [("weak", B(2)), ("plain",), ("plain",)]
        house = house_of(boxes, slots=[B(1)], waits=[(0, 3)])
        other = house_of(boxes, slots=[B(1)], waits=[(0, 3)])
        before = picture(other)
        self.sweeps(house, gone=[2], weak=[1], told=[(0, 3)])
        self.assertEqual(picture(other), before)
        self.sweeps(other, gone=[2], weak=[1], told=[(0, 3)])


class ManyHouses(Swept):
    def test_sweeps_keep_to_the_points(self):
        full = 0
        for seed in range(3000):
            house = any_house(seed)
            besides = ([None] + house.names())[seed % 5 % (len(house.names()) + 1)]
            with self.subTest(seed=seed, besides=besides):
                seen = picture(house)
                expected = swept(seen, besides)
                self.assertEqual(sweep(house, besides), expected)
                self.assertEqual(picture(house), seen)
                self.assertEqual(living(house, besides), house.names())
                self.assertEqual(sweep(house, besides), NOTHING)
                full += all(expected)
        # The houses are of use only if many sweeps have something in each list.
        self.assertGreater(full, 100)
