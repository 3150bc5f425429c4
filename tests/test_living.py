import unittest

from helper import B, any_house, held_names, house_of, paper_faults, picture
from lastword.house import House
from lastword.living import living, paper


class Asked(unittest.TestCase):
    def held_are(self, house, names, besides=None):
        before = picture(house)
        self.assertEqual(living(house, besides), names)
        rows = paper(house, besides)
        self.assertIsInstance(rows, list)
        self.assertEqual(paper_faults(house, rows, besides), [])
        self.assertEqual(sorted(row[0] for row in rows), names)
        self.assertEqual(picture(house), before)


class Roots(Asked):
    def test_an_empty_house_holds_nobody(self):
        self.held_are(House(5), [])
        self.assertEqual(paper(House(5)), [])

    def test_slots_hold_boxes(self):
        house = house_of([("plain",), ("weak", None), ("pair", None, None), ("plain",)], slots=[None, B(4), 3, B(2)])
        self.held_are(house, [2, 4])
        self.assertEqual(sorted(paper(house)), [(2, "slot", 3), (4, "slot", 1)])

    def test_one_box_in_several_slots_is_told_once(self):
        house = house_of([("plain",), ("plain",)], slots=[B(2), B(2), None, B(2)])
        self.held_are(house, [2])
        self.assertEqual(len(paper(house)), 1)

    def test_a_number_like_a_name_holds_nobody(self):
        self.held_are(house_of([("plain", 2), ("plain",)], slots=[1, 2]), [])
        self.held_are(house_of([("plain", 2), ("plain",)], slots=[B(1)]), [1])
        self.held_are(house_of([("pair", None, 2), ("plain",)], slots=[B(1)]), [1])

    def test_a_new_box_is_held_by_its_slot(self):
        house = House(5, 2)
        house.make("plain", 0, 1)
        self.assertEqual(paper(house), [(1, "slot", 1)])

    def test_the_last_of_many_slots_holds(self):
        house = house_of([("plain",)], slots=[None] * 19 + [B(1)])
        self.held_are(house, [1])
        self.assertEqual(paper(house), [(1, "slot", 19)])

    def test_told_boxes_are_held_at_each_guard(self):
        for guard in range(4):
            with self.subTest(guard):
                house = house_of([("plain",), ("plain", B(1)), ("plain",)], told=[(guard, 2)])
                self.held_are(house, [1, 2])
                self.assertEqual(paper(house), [(2, "told", guard), (1, "plain", 2, 0)])

    def test_several_told_boxes_of_one_guard_are_all_held(self):
        self.held_are(house_of([("plain",)] * 4, told=[(2, 4), (2, 1), (2, 3)]), [1, 3, 4])

    def test_a_taken_box_is_told_no_more(self):
        house = house_of([("plain",), ("plain",)], told=[(1, 1), (1, 2)])
        self.assertEqual(house.take(1, 3), 1)
        self.held_are(house, [1, 2])
        house.hold(3, None)
        self.held_are(house, [2])

    def test_waiting_holds_nobody(self):
        waits = [(guard, name) for guard in range(4) for name in (1, 2)]
        house = house_of([("plain",), ("plain", B(1)), ("plain",)], slots=[B(3)], waits=waits)
        self.held_are(house, [3])

    def test_the_answer_rises(self):
        boxes = [("plain", B(5), B(3)), ("plain", B(1)), ("plain",), ("plain", B(2)), ("plain",)]
        self.held_are(house_of(boxes, slots=[B(4)]), [1, 2, 3, 4, 5])


class PlainAndWeak(Asked):
    def test_a_held_plain_box_holds_all_its_fields(self):
        boxes = [("plain", B(2), None, B(3), 7, B(4), B(5), -1, B(6))] + [("plain",)] * 6
        self.held_are(house_of(boxes, slots=[B(1)]), [1, 2, 3, 4, 5, 6])

    def test_the_paper_names_the_field(self):
        house = house_of([("plain", 5, None, B(2)), ("plain",)], slots=[B(1)])
        self.assertEqual(paper(house), [(1, "slot", 0), (2, "plain", 1, 2)])

    def test_a_plain_box_that_is_not_held_holds_nobody(self):
        self.held_are(house_of([("plain", B(2)), ("plain", B(1)), ("plain", B(1))], slots=[B(3)]), [1, 2, 3])
        self.held_are(house_of([("plain", B(2)), ("plain", B(1)), ("plain", B(1))]), [])

    def test_rings(self):
        boxes = [("plain", B(2)), ("plain", B(3)), ("plain", B(1)), ("plain", B(4)), ("plain", B(4))]
        self.held_are(house_of(boxes), [])
        self.held_are(house_of(boxes, slots=[B(2)]), [1, 2, 3])
        self.held_are(house_of(boxes, slots=[B(5)]), [4, 5])

    def test_a_long_chain(self):
        boxes = [("plain", B(name + 1)) for name in range(1, 200)] + [("plain",)]
        self.held_are(house_of(boxes, slots=[B(1)], room=200), list(range(1, 201)))
        self.held_are(house_of(boxes, slots=[B(150)], room=200), list(range(150, 201)))

    def test_a_weak_box_holds_nobody(self):
        self.held_are(house_of([("weak", B(2)), ("plain",)], slots=[B(1)]), [1])
        self.held_are(house_of([("weak", B(2)), ("plain",), ("plain", B(1))], slots=[B(3)]), [1, 3])

    def test_a_weak_box_may_look_at_a_held_one(self):
        self.held_are(house_of([("weak", B(2)), ("plain",)], slots=[B(1), B(2)]), [1, 2])
        self.held_are(house_of([("weak", B(1))], slots=[B(1)]), [1])

    def test_swapped_boxes_hold_by_their_new_kinds(self):
        house = house_of([("weak", B(3)), ("plain", B(4)), ("plain",), ("plain",)], slots=[B(1)])
        self.held_are(house, [1])
        house.swap(1, 2)
        self.held_are(house, [1, 4])


class Pairs(Asked):
    def test_key_none(self):
        self.held_are(house_of([("pair", None, B(2)), ("plain",)], slots=[B(1)]), [1, 2])

    def test_key_a_number(self):
        for key in (0, -5, 2, 10 ** 40 - 1):
            with self.subTest(key):
                house = house_of([("pair", key, B(2)), ("plain",)], slots=[B(1)])
                self.held_are(house, [1, 2])
                self.assertEqual(paper(house), [(1, "slot", 0), (2, "pair", 1)])

    def test_key_a_held_box(self):
        self.held_are(house_of([("pair", B(2), B(3)), ("plain",), ("plain",)], slots=[B(1), B(2)]), [1, 2, 3])
        self.held_are(house_of([("pair", B(2), B(3)), ("plain",), ("plain",)], slots=[B(2), B(1)]), [1, 2, 3])

    def test_key_a_box_that_is_not_held(self):
        self.held_are(house_of([("pair", B(2), B(3)), ("plain",), ("plain",)], slots=[B(1)]), [1])

    def test_a_pair_never_holds_its_key(self):
        self.held_are(house_of([("pair", B(2), None), ("plain",)], slots=[B(1)]), [1])
        self.held_are(house_of([("pair", B(2), 4), ("plain",)], slots=[B(1)]), [1])

    def test_a_pair_that_is_not_held_holds_nobody(self):
        self.held_are(house_of([("pair", B(2), B(3)), ("plain",), ("plain",)], slots=[B(2)]), [2])
        self.held_are(house_of([("pair", None, B(2)), ("plain",)]), [])

    def test_a_value_that_is_no_box(self):
        self.held_are(house_of([("pair", B(2), 9), ("plain",)], slots=[B(1), B(2)]), [1, 2])
        self.held_are(house_of([("pair", None, None)], slots=[B(1)]), [1])

    def test_a_key_that_is_held_only_later_in_the_search(self):
        boxes = [("pair", B(5), B(2)), ("plain",), ("plain", B(4)), ("plain", B(5)), ("plain",)]
        house = house_of(boxes, slots=[B(1), B(3)])
        self.held_are(house, [1, 2, 3, 4, 5])

    def test_several_pairs_with_one_late_key(self):
        boxes = [("pair", B(6), B(4)), ("pair", B(6), B(5)), ("plain", B(7)), ("plain",), ("plain",), ("plain",),
                 ("plain", B(6))]
        self.held_are(house_of(boxes, slots=[B(1), B(2), B(3)]), [1, 2, 3, 4, 5, 6, 7])
        self.held_are(house_of(boxes, slots=[B(1), B(2)]), [1, 2])

    def test_a_key_that_is_held_through_another_pair(self):
        boxes = [("pair", B(2), B(3)), ("plain",), ("plain",), ("pair", B(5), B(2)), ("plain",)]
        self.held_are(house_of(boxes, slots=[B(1), B(4)]), [1, 4])
        self.held_are(house_of(boxes, slots=[B(1), B(4), B(5)]), [1, 2, 3, 4, 5])

    def test_a_row_of_pairs_that_opens_from_its_far_end(self):
        count = 60
        boxes = [("pair", B(count + at + 1), B(count + at)) for at in range(1, count)] + [("plain",)] * (count + 1)
        slots = [B(name) for name in range(1, count)]
        self.held_are(house_of(boxes, slots=slots, room=200), list(range(1, count)))
        slots.append(B(2 * count))
        self.held_are(house_of(boxes, slots=slots, room=200),
                      list(range(1, count)) + list(range(count + 1, 2 * count + 1)))

    def test_pairs_whose_keys_and_values_hang_on_one_another(self):
        boxes = [("pair", B(3), B(4)), ("pair", B(4), B(3)), ("plain",), ("plain",)]
        self.held_are(house_of(boxes, slots=[B(1), B(2)]), [1, 2])
        self.held_are(house_of(boxes, slots=[B(1), B(2), B(3)]), [1, 2, 3, 4])
        self.held_are(house_of(boxes, slots=[B(1), B(2), B(4)]), [1, 2, 3, 4])

    def test_two_pairs_that_are_each_others_key_and_value(self):
        boxes = [("pair", B(2), B(2)), ("pair", B(1), B(1))]
        self.held_are(house_of(boxes, slots=[B(1)]), [1])
        self.held_are(house_of(boxes, slots=[B(1), B(2)]), [1, 2])

    def test_a_key_that_holds_its_pair(self):
        boxes = [("pair", B(2), B(3)), ("plain", B(1)), ("plain",)]
        self.held_are(house_of(boxes, slots=[B(2)]), [1, 2, 3])
        self.held_are(house_of(boxes, slots=[B(1)]), [1])

    def test_a_value_that_holds_its_key(self):
        boxes = [("pair", B(2), B(3)), ("plain",), ("plain", B(2))]
        self.held_are(house_of(boxes, slots=[B(1)]), [1])
        self.held_are(house_of(boxes, slots=[B(1), B(3)]), [1, 2, 3])

    def test_a_pair_that_is_its_own_key_or_value(self):
        self.held_are(house_of([("pair", B(1), B(2)), ("plain",)], slots=[B(1)]), [1, 2])
        self.held_are(house_of([("pair", B(2), B(1)), ("plain",)], slots=[B(1)]), [1])
        self.held_are(house_of([("pair", B(2), B(2)), ("plain",)], slots=[B(1)]), [1])

    def test_a_key_in_a_weak_box_is_not_held(self):
        boxes = [("pair", B(2), B(3)), ("plain",), ("plain",), ("weak", B(2))]
        self.held_are(house_of(boxes, slots=[B(1), B(4)]), [1, 4])

    def test_a_key_that_waits_is_not_held_and_one_that_is_told_is(self):
        boxes = [("pair", B(2), B(3)), ("plain",), ("plain",)]
        self.held_are(house_of(boxes, slots=[B(1)], waits=[(0, 2)]), [1])
        self.held_are(house_of(boxes, slots=[B(1)], told=[(0, 2)]), [1, 2, 3])


class Besides(Asked):
    boxes = [("plain", B(2)), ("plain",), ("pair", B(1), B(4)), ("plain",), ("weak", B(1))]

    def test_it_counts_like_one_slot_more(self):
        house = house_of(self.boxes, slots=[B(3)])
        self.held_are(house, [3])
        self.held_are(house, [1, 2, 3, 4], besides=1)
        self.held_are(house, [2, 3], besides=2)
        self.held_are(house, [3, 5], besides=5)

    def test_it_is_for_one_asking(self):
        house = house_of(self.boxes, slots=[B(3)])
        living(house, 1)
        paper(house, 1)
        self.held_are(house, [3])

    def test_a_box_that_is_held_anyhow(self):
        house = house_of(self.boxes, slots=[B(1)])
        self.held_are(house, [1, 2], besides=1)
        self.held_are(house, [1, 2], besides=2)

    def test_the_paper_of_a_box_that_nobody_else_holds(self):
        house = house_of(self.boxes)
        self.assertEqual(paper(house, 1), [(1, "besides"), (2, "plain", 1, 0)])
        self.assertEqual(paper(house, besides=4), [(4, "besides")])

    def test_none_is_nobody_besides(self):
        self.held_are(house_of(self.boxes), [], besides=None)
        self.assertEqual(living(house_of(self.boxes), besides=None), [])


class NewLists(Asked):
    def setUp(self):
        self.house = house_of([("plain", B(2)), ("plain",), ("plain",)], slots=[B(1)], told=[(0, 3)])

    def test_a_told_list_may_be_changed(self):
        living(self.house).clear()
        paper(self.house).append("something")
        paper(self.house).reverse()
        living(self.house, 3).append(17)
        self.held_are(self.house, [1, 2, 3])

    def test_no_two_told_lists_are_one(self):
        self.assertIsNot(living(self.house), living(self.house))
        first, second = paper(self.house), paper(self.house)
        self.assertIsNot(first, second)
        self.assertEqual(first, second)

    def test_two_houses_know_nothing_of_one_another(self):
        other = house_of([("plain", B(3)), ("plain",), ("plain",)], slots=[B(1)])
        self.held_are(self.house, [1, 2, 3])
        self.held_are(other, [1, 3])
        other.hold(0, None)
        self.held_are(self.house, [1, 2, 3])
        self.held_are(other, [])


class ManyHouses(Asked):
    def test_living_and_paper_keep_to_the_points(self):
        opened = 0
        for seed in range(1500):
            house = any_house(seed)
            for besides in [None] + house.names()[:3]:
                with self.subTest(seed=seed, besides=besides):
                    self.held_are(house, sorted(held_names(picture(house), besides)), besides)
            opened += any(row[1] == "pair" and isinstance(house.field(row[2], 0), tuple) for row in paper(house))
        # The houses are of use only if many have pairs that hang on keys.
        self.assertGreater(opened, 100)
