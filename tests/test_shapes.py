import unittest

from helper import (B, GREATEST, Refusing, any_tight_house, copied, house_of, of_one_shape, outcome, picture, road_in,
                    slots_of, walk_in)
from lastword.errors import Crowded, NoBox, NoSlot
from lastword.house import House
from lastword.living import living
from lastword.shapes import alike, apart, doubled, folded, walk
from lastword.sweeping import sweep

NO_NAMES = (0, -1, 99, GREATEST, -GREATEST)
NO_SLOTS = (-1, 20, 21, 99, GREATEST, -GREATEST)


def ring(first, count):
    """Rows of plain boxes from the name `first` on, each with the one behind it, the last with the first."""
    return [("plain", B(first + (at + 1) % count)) for at in range(count)]


def chain(first, count, end=None):
    return [("plain", B(first + at + 1)) for at in range(count - 1)] + [("plain", end)]


class Asked(Refusing):
    def tells(self, answer, house, ask, *given):
        """The answer is this, and asking changes nothing."""
        before = picture(house)
        self.assertEqual(ask(house, *given), answer)
        self.assertEqual(picture(house), before)


class Walks(Asked):
    def test_a_box_without_boxes(self):
        house = house_of([("plain",), ("plain", 1, None, 3), ("weak", 1), ("pair", 1, None)])
        for name in house.names():
            self.tells([name], house, walk, name)

    def test_box_by_box_and_field_by_field(self):
        boxes = [("plain", B(5), 9, B(2), B(6)), ("plain", B(4)), ("plain",), ("plain", B(7)), ("plain", None, B(3)),
                 ("plain",), ("plain",)]
        self.tells([1, 5, 2, 6, 3, 4, 7], house_of(boxes), walk, 1)

    def test_the_nearer_boxes_come_ahead_of_the_farther(self):
        boxes = [("plain", B(2), B(4)), ("plain", B(3)), ("plain", B(5)), ("plain", B(5)), ("plain",)]
        self.tells([1, 2, 4, 3, 5], house_of(boxes), walk, 1)

    def test_boxes_of_every_kind_lead_on(self):
        boxes = [("weak", B(2)), ("pair", B(4), B(3)), ("plain", B(5)), ("weak", None), ("pair", None, B(6)),
                 ("pair", B(7), 1), ("plain",)]
        self.tells([1, 2, 4, 3, 5, 6, 7], house_of(boxes), walk, 1)

    def test_who_is_held_is_not_asked(self):
        self.tells([1, 2], house_of([("weak", B(2)), ("plain",)], slots=[]), walk, 1)
        self.tells([1, 2, 3], house_of([("pair", B(2), B(3)), ("plain",), ("plain",)], slots=[B(1)]), walk, 1)

    def test_boxes_that_come_several_times_stand_once(self):
        boxes = [("plain", B(3), B(3), B(1), B(2)), ("plain", B(3)), ("plain", B(2), B(1))]
        self.tells([1, 3, 2], house_of(boxes), walk, 1)

    def test_rings(self):
        self.tells([1], house_of(ring(1, 1)), walk, 1)
        self.tells([3, 1, 2], house_of(ring(1, 3)), walk, 3)

    def test_a_number_like_a_name_leads_nowhere(self):
        self.tells([1], house_of([("plain", 2), ("plain",)]), walk, 1)

    def test_as_long_as_the_room(self):
        self.tells(list(range(1, 201)), house_of(chain(1, 200), room=200), walk, 1)
        self.tells(list(range(120, 201)) + list(range(1, 120)), house_of(ring(1, 200), room=200), walk, 120)

    def test_no_box(self):
        house = house_of([("plain",)] * 2, slots=[B(2)])
        sweep(house)
        for name in NO_NAMES + (1, 3):
            self.refused(NoBox, house, walk, house, name)

    def test_the_lists_are_new(self):
        house = house_of(ring(1, 3))
        first, second = walk(house, 1), walk(house, 1)
        first.clear()
        self.assertEqual((second, walk(house, 1)), ([1, 2, 3], [1, 2, 3]))


class Alike(Asked):
    def are(self, answer, boxes, name=1, other=2):
        house = house_of(boxes, room=200)
        for ask in ((name, other), (other, name)):
            self.tells(answer, house, alike, *ask)
        self.assertIs(alike(house, name, other), answer)

    def test_boxes_without_boxes(self):
        for row in (("plain",), ("plain", 4, None), ("weak", None), ("weak", -3), ("pair", None, 0)):
            self.are(True, [row, row])

    def test_unlike_kinds(self):
        self.are(False, [("plain", 1), ("weak", 1)])
        self.are(False, [("plain", 1, None), ("pair", 1, None)])
        self.are(False, [("plain", B(3)), ("plain", B(4)), ("plain", 2), ("weak", 2)])

    def test_unlike_counts_of_fields(self):
        self.are(False, [("plain",), ("plain", None)])
        self.are(False, [("plain", 7, None), ("plain", 7)])
        self.are(False, [("plain", B(3)), ("plain", B(4)), ("plain",), ("plain", None)])

    def test_unlike_numbers(self):
        self.are(False, [("plain", 1), ("plain", -1)])
        self.are(False, [("plain", 10 ** 39), ("plain", 10 ** 39 + 1)])
        self.are(True, [("plain", GREATEST, -GREATEST), ("plain", GREATEST, -GREATEST)])
        self.are(False, [("plain", 1, 2), ("plain", 2, 1)])

    def test_none_a_number_and_a_box(self):
        self.are(False, [("plain", None), ("plain", 0)])
        self.are(False, [("plain", None), ("plain", B(1))])
        self.are(False, [("plain", 1), ("plain", B(1))])
        self.are(False, [("plain", B(3), 3), ("plain", B(3), B(3)), ("plain",)])

    def test_walks_unlike_in_length(self):
        self.are(False, ring(1, 1) + ring(2, 2))
        self.are(False, [("plain", B(3), B(3)), ("plain", B(3), B(4)), ("plain",), ("plain",)])
        self.are(False, chain(1, 2) + chain(3, 3), 1, 3)

    def test_the_same_box_at_unlike_places(self):
        boxes = [("plain", B(2), B(3), B(2)), ("plain",), ("plain",), ("plain", B(5), B(6), B(6)), ("plain",),
                 ("plain",)]
        self.are(False, boxes, 1, 4)
        self.are(True, [("plain", B(1)), ("plain", B(2))])
        self.are(False, [("plain", B(1)), ("plain", B(1))])

    def test_boxes_that_both_have(self):
        self.are(True, [("plain", B(3)), ("plain", B(3)), ("plain",)])
        self.are(True, [("plain", B(3), B(4)), ("plain", B(4), B(3)), ("plain",), ("plain",)])
        self.are(False, [("plain", B(3), B(4)), ("plain", B(4), B(3)), ("plain",), ("weak", None)])

    def test_rings_of_one_length(self):
        self.are(True, ring(1, 3) + ring(4, 3), 1, 5)
        self.are(True, ring(1, 3), 1, 3)
        self.are(False, ring(1, 2) + [("plain", B(4)), ("plain", B(1))], 1, 3)

    def test_a_box_with_itself(self):
        for row in (("plain",), ("plain", B(1), 5, None), ("weak", B(1)), ("pair", 1, B(1))):
            self.are(True, [row], 1, 1)

    def test_as_long_as_the_room(self):
        self.are(True, chain(1, 100, 8) + chain(101, 100, 8), 1, 101)
        self.are(False, chain(1, 100, 8) + chain(101, 100, 9), 1, 101)
        self.are(True, ring(1, 100) + ring(101, 100), 30, 170)
        self.are(False, ring(1, 99) + ring(100, 101), 1, 100)


class NoSuchBoxes(Asked):
    def test_either_name_or_both(self):
        house = house_of([("plain",)] * 3, slots=[B(2)])
        sweep(house)
        for ask in (alike, apart):
            for name in NO_NAMES + (1, 3):
                self.refused(NoBox, house, ask, house, name, 2)
                self.refused(NoBox, house, ask, house, 2, name)
                self.refused(NoBox, house, ask, house, name, name)


class Roads(Asked):
    def road(self, answer, boxes, name=1, other=2):
        house = house_of(boxes, room=200)
        self.tells(answer, house, apart, name, other)
        self.tells(answer, house, apart, other, name)

    def test_the_empty_road(self):
        for row, other in ((("plain",), ("plain", None)), (("plain", 1), ("weak", 1)),
                           (("plain", 1, 2), ("pair", 1, 2)), (("plain", 1), ("plain", 2)),
                           (("plain", 0), ("plain", None)), (("plain", 5), ("plain", -5)),
                           (("weak", None), ("weak", B(1))), (("pair", 3, 1), ("pair", 3, B(1)))):
            self.road([], [row, other])

    def test_none_for_boxes_of_one_shape(self):
        self.road(None, [("plain",), ("plain",)])
        self.road(None, [("pair", 4, None), ("pair", 4, None)])
        self.road(None, ring(1, 3) + ring(4, 3), 1, 5)
        self.road(None, [("plain", B(1), 5, None)], 1, 1)

    def test_none_for_unlike_walks(self):
        self.road(None, ring(1, 1) + ring(2, 2))
        self.road(None, ring(1, 2) + ring(3, 3), 2, 3)
        self.road(None, [("plain", B(3), B(3)), ("plain", B(3), B(4)), ("plain",), ("plain",)])
        self.road(None, [("weak", B(1)), ("weak", B(3)), ("weak", B(1))])
        self.road(None, [("plain", B(3), B(4)), ("plain", B(4), B(3)), ("plain", 2), ("plain", 2)])

    def test_one_field(self):
        self.road([0], [("weak", B(3)), ("weak", B(4)), ("plain", 1), ("plain", 2)])
        self.road([1], [("pair", B(3), B(3)), ("pair", B(3), B(4)), ("plain", 1), ("plain", 2)])
        self.road([7], [("plain",) + (B(3),) * 8, ("plain",) + (B(3),) * 7 + (B(4),), ("plain",), ("weak", None)])

    def test_which_box_is_there_tells_nothing_by_itself(self):
        boxes = [("plain", B(3), B(5)), ("plain", B(4), B(6)), ("plain",), ("plain",), ("plain", 1), ("plain",)]
        self.road([1], boxes)

    def test_the_shortest_is_told_though_another_has_lesser_numbers(self):
        boxes = [("plain", B(3), B(5)), ("plain", B(4), B(6)), ("plain", B(5)), ("plain", B(6)), ("plain", 1),
                 ("plain", 2)]
        self.road([1], boxes)

    def test_of_equally_short_ones_the_lesser_number_where_they_first_differ(self):
        ends = [("plain", 1), ("plain", 2)]
        boxes = ends + [("plain", B(1), None, B(1)), ("plain", B(2), None, B(2))]
        self.road([0], boxes, 3, 4)
        boxes = ends + [("plain", B(1), B(1)), ("plain", B(1), B(2)), ("plain", B(1), B(1)), ("plain", B(2), B(1)),
                        ("plain", B(3), B(5)), ("plain", B(4), B(6))]
        self.road([0, 1], boxes, 7, 8)
        boxes = ends + [("plain", B(1), B(1)), ("plain", B(1), B(2)), ("plain", B(1), B(1)), ("plain", B(2), B(1)),
                        ("plain", B(5), B(3)), ("plain", B(6), B(4))]
        self.road([0, 0], boxes, 7, 8)

    def test_two_that_both_lead_to_one_pair(self):
        boxes = [("plain", B(3), B(3)), ("plain", B(4), B(4)), ("plain", 7, B(5)), ("plain", 7, B(6)), ("plain", 1),
                 ("plain", 2)]
        self.road([0, 1], boxes)

    def test_a_road_that_goes_round_unlike_rings(self):
        boxes = ring(1, 2) + ring(3, 3)
        boxes[1] = ("plain", B(1), 5)
        boxes[4] = ("plain", B(3), 5)
        self.road([0], boxes, 1, 3)
        self.road([0, 0, 0], [("plain", B(2), 5), ("plain", B(1), 6), ("plain", B(4), 5), ("plain", B(5), 6),
                              ("plain", B(3), 5)], 1, 3)

    def test_two_boxes_of_one_chain(self):
        self.road([0, 0], chain(1, 5), 1, 3)
        self.road([], chain(1, 5), 2, 5)

    def test_numbers_at_the_edge(self):
        self.road([], [("plain", GREATEST), ("plain", GREATEST - 1)])
        self.road([], [("plain", GREATEST), ("plain", -GREATEST)])
        self.road(None, [("plain", -GREATEST), ("plain", -GREATEST)])

    def test_as_long_as_the_room(self):
        self.road([0] * 99, chain(1, 100, 8) + chain(101, 100, 9), 1, 101)
        self.road([0] * 198, chain(1, 200), 1, 2)
        self.road(None, chain(1, 100, 8) + chain(101, 100, 8), 1, 101)
        # Two rings without a common measure lead through each pair of their boxes.
        self.road(None, ring(1, 99) + ring(100, 101), 1, 100)

    def test_every_two_of_many_boxes_with_many_roads(self):
        boxes = [("plain",) + tuple(B((name * 3 + at) % 200 + 1) for at in range(8)) for name in range(200)]
        house = house_of(boxes, room=200)
        self.assertIsNone(apart(house, 1, 2))
        house.put(200, 7, 1)
        seen = picture(house)
        road = apart(house, 1, 2)
        ends = [1, 2]
        for at in road:
            ends = [seen["fields"][end][at][1] for end in ends]
        self.assertEqual(ends.count(200), 1)

    def test_the_lists_are_new(self):
        house = house_of([("plain",), ("weak", None)])
        first, second = apart(house, 1, 2), apart(house, 1, 2)
        first.append(3)
        self.assertEqual((second, apart(house, 1, 2)), ([], []))


class Copying(Refusing):
    def copies(self, house, room, deed, name, slot=0):
        """The deed does what the second working-out does; the new boxes, as (kind, field, ..)."""
        seen = picture(house)
        expected = copied(seen, room, name, slot, deed == folded)
        first = outcome(deed, house, name, slot)
        self.assertEqual(first, expected)
        self.assertEqual(picture(house), seen)
        if first is Crowded:
            return Crowded
        return [(seen["kinds"][new],) + tuple(seen["fields"][new]) for new in range(first, seen["next"])]

    def both_copy(self, boxes, name, rows):
        for deed in (doubled, folded):
            with self.subTest(deed.__name__):
                self.assertEqual(self.copies(house_of(boxes), 60, deed, name), rows)


class DoubledAndFolded(Copying):
    def test_one_box_of_each_kind(self):
        for row in (("plain",), ("plain", 1, None, -GREATEST), ("weak", 5), ("weak", None), ("pair", None, 0),
                    ("plain",) + (GREATEST,) * 8):
            self.both_copy([row], 1, [row])

    def test_order_and_fields(self):
        boxes = [("plain", B(4), 7, B(2)), ("weak", B(1)), ("plain",), ("pair", B(2), B(5)), ("plain", B(5), None)]
        rows = [("plain", B(7), 7, B(8)), ("pair", B(8), B(9)), ("weak", B(6)), ("plain", B(9), None)]
        self.both_copy(boxes, 1, rows)

    def test_a_box_with_itself(self):
        for kind, fields in (("plain", (B(1), B(1))), ("weak", (B(1),)), ("pair", (B(1), 4))):
            row = (kind,) + tuple(B(2) if thing == B(1) else thing for thing in fields)
            self.both_copy([(kind,) + fields], 1, [row])

    def test_the_first_name_is_answered_and_the_slot_holds_it(self):
        for deed in (doubled, folded):
            house = house_of([("plain", B(2)), ("plain", 1)], slots=[B(1), 5, None, B(2)])
            self.assertEqual((deed(house, 1), slots_of(house)), (3, [B(3), 5, None, B(2)]))
            self.assertEqual((deed(house, 2, 2), slots_of(house)), (5, [B(3), 5, B(5), B(2)]))
            self.assertEqual((deed(house, name=2, slot=3), slots_of(house)), (6, [B(3), 5, B(5), B(6)]))

    def test_the_copy_stands_by_itself(self):
        for deed in (doubled, folded):
            house = house_of([("plain", B(2), 5), ("plain", 1)], slots=[B(1)])
            deed(house, 1, 1)
            before = picture(house)
            house.put(3, 1, 6)
            house.put(4, 0, None)
            self.assertEqual([house.field(1, 1), house.field(2, 0)], [5, 1])
            house.put(1, 1, 8)
            self.assertEqual(house.field(3, 1), 6)
            self.assertEqual((before["slots"], before["waiting"]), (slots_of(house), [[], [], [], []]))

    def test_copies_neither_wait_nor_are_told(self):
        for deed in (doubled, folded):
            house = house_of([("plain", B(2)), ("plain",)], waits=[(0, 1), (1, 2)], told=[(3, 1)])
            deed(house, 1, 1)
            self.assertEqual([house.waiting(guard) + house.words(guard) for guard in range(4)], [[1], [2], [], [1]])

    def test_a_box_that_nobody_holds_may_be_copied(self):
        for deed in (doubled, folded):
            house = house_of([("weak", B(2)), ("plain",)])
            self.assertEqual((deed(house, 1), living(house), house.names()), (3, [3], [1, 2, 3, 4]))

    def test_no_slot_ahead_of_no_box_ahead_of_crowded(self):
        for deed in (doubled, folded):
            house = house_of([("plain", B(2)), ("plain",), ("plain",)], slots=[B(1)] + [None] * 19, room=3)
            for slot in NO_SLOTS:
                for name in NO_NAMES + (1, 4):
                    self.refused(NoSlot, house, deed, house, name, slot)
            for name in NO_NAMES + (4,):
                for slot in (0, 19):
                    self.refused(NoBox, house, deed, house, name, slot)
            self.refused(NoSlot, House(1, 1), deed, House(1, 1), 1, 1)

    def test_a_gone_box(self):
        for deed in (doubled, folded):
            house = house_of([("plain",)] * 2, slots=[B(2)])
            sweep(house)
            self.refused(NoBox, house, deed, house, 1)


class RoomForCopies(Copying):
    def test_room_that_is_just_enough_without_a_sweep(self):
        for deed in (doubled, folded):
            house = house_of([("plain", B(2)), ("plain",), ("plain",)], slots=[B(1)], room=5)
            self.assertEqual(self.copies(house, 5, deed, 1), [("plain", B(5)), ("plain",)])
            self.assertEqual(house.names(), [1, 2, 3, 4, 5])

    def test_room_that_is_just_enough_with_a_sweep(self):
        for deed in (doubled, folded):
            house = house_of([("plain", B(2)), ("plain",), ("plain",)], slots=[B(1)], room=4)
            self.assertEqual(self.copies(house, 4, deed, 1), [("plain", B(5)), ("plain",)])
            self.assertEqual(house.names(), [1, 2, 4, 5])

    def test_crowded_behind_a_sweep_that_stays_done(self):
        for deed in (doubled, folded):
            boxes = [("plain", B(2)), ("plain",), ("plain",), ("weak", B(3)), ("plain",)]
            house = house_of(boxes, slots=[B(1), B(4)], waits=[(2, 5)], room=5)
            self.assertIs(self.copies(house, 5, deed, 1, 1), Crowded)
            self.assertEqual((house.names(), house.field(4, 0), house.words(2)), ([1, 2, 4, 5], None, [5]))
            self.refused(Crowded, house, deed, house, 1, 1)
            self.assertEqual((house.take(2), deed(house, 2, 1)), (5, 6))

    def test_more_new_boxes_than_the_room_ever_has(self):
        for deed in (doubled, folded):
            house = house_of(chain(1, 4) + [("plain",)], slots=[B(1)], room=5)
            self.assertIs(self.copies(house, 5, deed, 1), Crowded)
            self.assertEqual(house.names(), [1, 2, 3, 4])

    def test_the_box_that_is_copied_is_held_besides(self):
        for deed in (doubled, folded):
            boxes = [("plain", B(2)), ("plain",), ("weak", B(1)), ("pair", B(2), B(5)), ("plain",), ("plain",)]
            house = house_of(boxes, slots=[B(3), B(4)], waits=[(0, 1), (0, 6)], room=7)
            self.assertIs(self.copies(house, 7, deed, 1), Crowded)
            self.assertEqual((house.names(), house.waiting(0), house.words(0)), ([1, 2, 3, 4, 5, 6], [1], [6]))
            house.take(0, 2)
            house.hold(2, None)
            self.assertEqual(self.copies(house, 7, deed, 1, 2), [("plain", B(8)), ("plain",)])
            self.assertEqual([house.field(3, 0), house.field(4, 1)], [B(1), B(5)])

    def test_it_is_held_besides_in_that_sweep_alone(self):
        for deed in (doubled, folded):
            house = house_of([("plain",), ("plain",)], room=2)
            self.assertEqual(self.copies(house, 2, deed, 1), [("plain",)])
            self.assertEqual((house.names(), living(house)), ([1, 3], [3]))
            self.assertEqual(sweep(house)[0], [1])

    def test_the_slot_still_holds_what_it_held_in_that_sweep(self):
        for deed in (doubled, folded):
            house = house_of([("plain",), ("plain", B(3)), ("plain",), ("plain",)], slots=[B(2)], room=4)
            self.assertEqual(self.copies(house, 4, deed, 1), [("plain",)])
            self.assertEqual((house.names(), house.held(0)), ([1, 2, 3, 5], B(5)))
            house = house_of([("plain",), ("plain", B(3)), ("plain",)], slots=[B(2)], room=3)
            self.refused(Crowded, house, deed, house, 1, 0)

    def test_the_walk_is_found_anew_where_a_weak_box_was_broken(self):
        for deed in (doubled, folded):
            house = house_of([("plain", B(2), 3), ("weak", B(3)), ("plain", B(4)), ("plain", 4)], room=4)
            self.assertEqual(self.copies(house, 4, deed, 1), [("plain", B(6), 3), ("weak", None)])
            self.assertEqual(house.names(), [1, 2, 5, 6])

    def test_the_walk_is_found_anew_where_a_pair_was_broken(self):
        for deed in (doubled, folded):
            house = house_of([("pair", B(2), B(3)), ("plain",), ("plain", 4)], room=3)
            self.assertEqual(self.copies(house, 3, deed, 1), [("pair", None, None)])
            self.assertEqual(house.names(), [1, 4])

    def test_what_a_broken_weak_box_looked_at_may_stay_out_of_the_walk(self):
        for deed in (doubled, folded):
            house = house_of([("plain", B(2)), ("weak", B(3)), ("plain", 1)], waits=[(0, 3)], room=5)
            self.assertEqual(self.copies(house, 5, deed, 1), [("plain", B(5)), ("weak", None)])
            self.assertEqual((house.names(), house.words(0)), ([1, 2, 3, 4, 5], [3]))

    def test_no_sweep_where_the_boxes_fit(self):
        for deed in (doubled, folded):
            boxes = [("plain",), ("plain",), ("weak", B(2)), ("pair", B(2), B(4)), ("plain",)]
            house = house_of(boxes, slots=[B(3), B(4)], waits=[(0, 5)], room=6)
            seen = picture(house)
            self.assertEqual(deed(house, 1, 2), 6)
            seen["kinds"][6], seen["fields"][6], seen["slots"][2], seen["next"] = "plain", [], B(6), 7
            self.assertEqual(picture(house), seen)

    def test_as_long_as_the_room(self):
        boxes = chain(1, 100, 8)
        house = house_of(boxes, slots=[B(1)], room=200)
        self.assertEqual(doubled(house, 1, 1), 101)
        self.assertEqual(house.names(), list(range(1, 201)))
        self.assertEqual(walk(house, 101), list(range(101, 201)))
        self.assertTrue(alike(house, 1, 101))
        self.refused(Crowded, house, doubled, house, 200, 2)
        self.refused(Crowded, house, folded, house, 101, 2)

    def test_long_rings(self):
        house = house_of(ring(1, 100), slots=[B(1)], room=200)
        self.assertEqual((doubled(house, 40, 1), walk(house, 101)), (101, list(range(101, 201))))
        house = house_of(ring(1, 199), slots=[B(1)], room=200)
        self.assertIs(outcome(doubled, house, 1), Crowded)
        self.assertEqual((folded(house, 77), house.field(200, 0), house.held(0)), (200, B(200), B(200)))


class Folds(Copying):
    def folds(self, boxes, rows, name=1, room=60):
        house = house_of(boxes, room=room)
        self.assertEqual(self.copies(house, room, folded, name), rows)
        first = len(boxes) + 1
        self.assertIsNone(apart(house, name, first))
        self.assertEqual(walk(house, first), list(range(first, first + len(rows))))

    def test_two_like_boxes_become_one(self):
        self.folds([("plain", B(2), B(3)), ("plain", 5), ("plain", 5)], [("plain", B(5), B(5)), ("plain", 5)])

    def test_boxes_that_differ_stay_two(self):
        for row, other in ((("plain", 5), ("plain", 6)), (("plain", 5), ("weak", 5)), (("plain",), ("plain", None)),
                           (("plain", None), ("plain", 0)), (("pair", 1, 2), ("pair", 2, 1))):
            self.folds([("plain", B(2), B(3)), row, other], [("plain", B(5), B(6)), row, other])

    def test_the_first_of_the_walk_is_taken(self):
        boxes = [("plain", B(4), B(2)), ("weak", B(3)), ("plain", 9), ("weak", B(5)), ("plain", 9)]
        self.folds(boxes, [("plain", B(7), B(7)), ("weak", B(8)), ("plain", 9)])

    def test_rings_become_a_ring_of_one(self):
        for count in (1, 2, 3, 7):
            self.folds(ring(1, count), [("plain", B(count + 1))])

    def test_a_ring_that_repeats_itself(self):
        boxes = [("plain", B(at % 6 + 1), at % 2) for at in range(1, 7)]
        self.folds(boxes, [("plain", B(8), 1), ("plain", B(7), 0)])
        self.folds(boxes, [("plain", B(8), 0), ("plain", B(7), 1)], name=4)
        boxes = [("plain", B(at % 6 + 1), int(at == 1)) for at in range(1, 7)]
        self.folds(boxes, [("plain", B(8), 1)] + [("plain", B(name), 0) for name in (9, 10, 11, 12, 7)])

    def test_a_chain_that_runs_into_a_ring(self):
        self.folds(chain(1, 4, B(2)), [("plain", B(5))])
        self.folds(chain(1, 4, 3), [("plain", B(6)), ("plain", B(7)), ("plain", B(8)), ("plain", 3)])

    def test_boxes_that_stand_at_several_places(self):
        boxes = [("plain", B(2), B(3), B(2), B(4)), ("pair", B(3), 1), ("plain", B(1)), ("pair", B(5), 1),
                 ("plain", B(1))]
        self.folds(boxes, [("plain", B(7), B(8), B(7), B(7)), ("pair", B(8), 1), ("plain", B(6))])

    def test_boxes_that_only_a_long_road_tells_apart(self):
        boxes = [("plain", B(2), B(5))] + chain(2, 3, 1) + chain(5, 3, 2)
        rows = [("plain", B(9), B(10)), ("plain", B(11)), ("plain", B(12)), ("plain", B(13)), ("plain", B(14)),
                ("plain", 1), ("plain", 2)]
        self.folds(boxes, rows)
        boxes = [("plain", B(2), B(5))] + chain(2, 3, 1) + chain(5, 3, 1)
        self.folds(boxes, [("plain", B(9), B(9)), ("plain", B(10)), ("plain", B(11)), ("plain", 1)])

    def test_the_box_itself_may_be_met_again(self):
        self.folds([("plain", B(2), 1), ("plain", B(3), 1), ("plain", B(1), 1)], [("plain", B(4), 1)])
        self.folds([("plain", B(2), B(3)), ("plain", B(2), B(1)), ("plain", B(3), B(3))], [("plain", B(4), B(4))])

    def test_boxes_out_of_the_walk_do_not_count(self):
        self.folds([("plain", 5), ("plain", B(1), B(3)), ("plain", 5)], [("plain", B(5), B(5)), ("plain", 5)], name=2)

    def test_what_is_taken_counts_for_room(self):
        house = house_of(ring(1, 5), slots=[B(1)], room=6)
        self.assertEqual(self.copies(house, 6, folded, 1), [("plain", B(6))])
        self.assertIs(self.copies(house_of(ring(1, 5), slots=[B(1)], room=6), 6, doubled, 1), Crowded)

    def test_no_sweep_where_what_is_taken_fits(self):
        house = house_of(ring(1, 3) + [("plain",)], slots=[B(1)], room=5)
        self.assertEqual((folded(house, 2, 1), house.names()), (5, [1, 2, 3, 4, 5]))

    def test_what_is_taken_is_found_anew_behind_the_sweep(self):
        # Ahead of the sweep the two weak boxes are told apart; broken they are not.
        boxes = [("plain", B(2), B(3)), ("weak", B(4)), ("weak", B(5)), ("plain", 1), ("plain", 2)]
        house = house_of(boxes, room=5)
        self.assertEqual(self.copies(house, 5, folded, 1), [("plain", B(7), B(7)), ("weak", None)])
        self.assertEqual(house.names(), [1, 2, 3, 6, 7])

    def test_more_may_be_taken_behind_the_sweep_than_ahead_of_it(self):
        # Only one of two like weak boxes is broken: from then on a road tells them apart.
        boxes = [("plain", B(2), B(3)), ("weak", B(4)), ("weak", B(5)), ("plain", 1), ("plain", 1), ("plain",)]
        house = house_of(boxes, slots=[B(5)], room=8)
        rows = [("plain", B(8), B(9)), ("weak", None), ("weak", B(10)), ("plain", 1)]
        self.assertEqual(self.copies(house, 8, folded, 1, 1), rows)
        house = house_of(boxes, slots=[B(5)], room=7)
        self.assertIs(self.copies(house, 7, folded, 1, 1), Crowded)
        self.assertEqual(house.names(), [1, 2, 3, 5])

    def test_as_long_as_the_room(self):
        house = house_of(chain(1, 100, 8), slots=[B(1)], room=200)
        self.assertEqual((folded(house, 1, 1), walk(house, 101)), (101, list(range(101, 201))))
        self.assertTrue(alike(house, 1, 101))
        # Two like chains behind one box: 133 boxes, of which 67 are taken.
        house = house_of([("plain", B(2), B(68))] + chain(2, 66, 3) + chain(68, 66, 3), slots=[B(1)], room=200)
        self.assertEqual((folded(house, 1), house.field(134, 0), house.field(134, 1)), (134, B(135), B(135)))
        self.assertEqual((walk(house, 134), house.names()), (list(range(134, 201)), list(range(1, 201))))
        self.assertTrue(alike(house, 2, 135))


class OverTheHouse(unittest.TestCase):
    def test_two_houses_know_nothing_of_one_another(self):
        boxes = [("plain", B(2), B(2)), ("plain", 5)]
        house, other = house_of(boxes), house_of(boxes)
        before = picture(other)
        doubled(house, 1)
        folded(house, 1)
        self.assertEqual(picture(other), before)
        self.assertEqual(doubled(other, 1), 3)


class ManyHouses(Copying):
    def test_walks_shapes_and_roads_keep_to_the_points(self):
        counts = {"alike": 0, "apart": 0, "unlike walks": 0}
        for seed in range(600):
            house, room = any_tight_house(seed)
            seen = picture(house)
            for name in house.names():
                self.assertEqual(walk(house, name), walk_in(seen, name))
                for other in house.names():
                    with self.subTest(seed=seed, name=name, other=other):
                        road, shape = road_in(seen, name, other), of_one_shape(seen, name, other)
                        self.assertEqual(apart(house, name, other), road)
                        self.assertIs(alike(house, name, other), shape)
                        counts["alike"] += shape and name != other
                        counts["apart"] += road is not None and len(road) > 1
                        counts["unlike walks"] += road is None and not shape
            self.assertEqual(picture(house), seen)
        # The houses are of use only if each of these comes about.
        self.assertGreater(min(counts.values()), 20)

    def test_copies_and_folds_keep_to_the_points(self):
        counts = {}
        for seed in range(2500):
            for deed in (doubled, folded):
                house, room = any_tight_house(seed)
                name = house.names()[seed % len(house.names())]
                count = len(house.names())
                with self.subTest(seed=seed, name=name, deed=deed.__name__):
                    rows = self.copies(house, room, deed, name, seed % 4)
                went = not set(house.names()) >= set(range(1, count + 1))
                key = (deed.__name__, rows is Crowded, went)
                counts[key] = counts.get(key, 0) + 1
        # Each deed is done and refused, with boxes that go in a sweep and without.
        self.assertEqual(len(counts), 8)
        self.assertGreater(min(counts.values()), 20)
