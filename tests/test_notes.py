import itertools
import random
import unittest

from helper import (B, GREATEST, Refusing, any_tight_house, house_of, note_of, noted, outcome, picture, rows_in,
                    slots_of)
from lastword.errors import Crowded, NoBox, NoNote, NoSlot
from lastword.house import House
from lastword.notes import read, shown
from lastword.shapes import alike, apart, walk
from lastword.sweeping import sweep

NO_SLOTS = (-1, 4, 5, 99, GREATEST, -GREATEST)


def chain_note(count, end):
    return "\n".join([f"plain #{place + 1}" for place in range(count - 1)] + [f"plain {end}"])


class Shown(Refusing):
    def shows(self, note, boxes, name=1):
        house = house_of(boxes, room=200)
        before = picture(house)
        self.assertEqual(shown(house, name), note)
        self.assertEqual(picture(house), before)

    def test_each_kind_of_line(self):
        self.shows("plain", [("plain",)])
        self.shows("plain -", [("plain", None)])
        self.shows("plain 1 2 3 4 5 6 7 8", [("plain", 1, 2, 3, 4, 5, 6, 7, 8)])
        self.shows("weak -", [("weak", None)])
        self.shows("weak 12", [("weak", 12)])
        self.shows("weak #0", [("weak", B(1))])
        self.shows("pair - -", [("pair", None, None)])
        self.shows("pair #0 -5", [("pair", B(1), -5)])

    def test_numbers(self):
        self.shows("plain 0 -5 12", [("plain", 0, -5, 12)])
        self.shows("pair " + "9" * 40 + " -" + "9" * 40, [("pair", GREATEST, -GREATEST)])
        self.shows("plain 1" + "0" * 39, [("plain", 10 ** 39)])

    def test_places_go_by_the_walk(self):
        boxes = [("plain", B(4), 7, B(2)), ("weak", B(1)), ("plain",), ("pair", B(2), B(5)), ("plain", B(5), None)]
        self.shows("plain #1 7 #2\npair #2 #3\nweak #0\nplain #3 -", boxes)
        self.shows("weak #1\nplain #2 7 #0\npair #0 #3\nplain #3 -", boxes, 2)
        self.shows("plain", boxes, 3)

    def test_places_with_several_figures(self):
        boxes = [("plain", B(name % 12 + 1)) for name in range(1, 13)]
        self.shows("\n".join(f"plain #{place % 12}" for place in range(1, 13)), boxes, 7)

    def test_a_box_that_comes_several_times(self):
        self.shows("plain #1 #1 #0\nplain", [("plain", B(3), B(3), B(1)), ("plain",), ("plain",)])

    def test_who_is_held_is_not_asked(self):
        self.shows("weak #1\npair #2 #0\nplain", [("weak", B(2)), ("pair", B(3), B(1)), ("plain",)])

    def test_as_long_as_the_room(self):
        boxes = [("plain", B(name + 1)) for name in range(1, 200)] + [("plain", -3)]
        self.shows(chain_note(200, "-3"), boxes)
        boxes[-1] = ("plain", B(1))
        self.shows(chain_note(200, "#0"), boxes, 90)

    def test_no_box(self):
        house = house_of([("plain",)] * 2, slots=[B(2)])
        sweep(house)
        for name in (0, -1, 1, 3, 99, GREATEST):
            self.refused(NoBox, house, shown, house, name)


class Reading(Refusing):
    def reads(self, house, room, note, slot=0):
        """The note is read as the second working-out reads it; the new boxes, as (kind, field, ..), or the refusal."""
        seen = picture(house)
        expected = noted(seen, room, note, slot)
        first = outcome(read, house, note, slot)
        self.assertEqual(first, expected)
        self.assertEqual(picture(house), seen)
        if first in (NoNote, Crowded):
            return first
        return [(seen["kinds"][new],) + tuple(seen["fields"][new]) for new in range(first, seen["next"])]

    def becomes(self, note, *rows):
        """In an empty house these boxes come of the note."""
        with self.subTest(note):
            self.assertEqual(self.reads(House(200), 200, note), list(rows))

    def no_notes(self, *notes):
        """They are refused, without a sweep, in a house with room and in one without."""
        boxes = [("weak", B(2)), ("plain",), ("pair", B(2), 4), ("plain",)]
        for room in (4, 60):
            house = house_of(boxes, slots=[B(1), B(3)], waits=[(0, 4)], room=room)
            for note in notes:
                self.assertIsNone(rows_in(note))
                self.refused(NoNote, house, read, house, note)


class Read(Reading):
    def test_each_kind_of_line(self):
        self.becomes("plain", ("plain",))
        self.becomes("plain -", ("plain", None))
        self.becomes("plain 1 2 3 4 5 6 7 8", ("plain", 1, 2, 3, 4, 5, 6, 7, 8))
        self.becomes("weak -", ("weak", None))
        self.becomes("weak #0", ("weak", B(1)))
        self.becomes("pair -5 #0", ("pair", -5, B(1)))

    def test_every_count_of_words_that_plain_may_have(self):
        for count in range(9):
            self.becomes("plain" + " 7" * count, ("plain",) + (7,) * count)

    def test_numbers(self):
        self.becomes("plain 0 -5 12 -10 - 100", ("plain", 0, -5, 12, -10, None, 100))
        self.becomes("pair " + "9" * 40 + " -" + "9" * 40, ("pair", GREATEST, -GREATEST))
        self.becomes("plain 1" + "0" * 39, ("plain", 10 ** 39))

    def test_a_minus_alone_is_none(self):
        self.becomes("plain - - 1", ("plain", None, None, 1))

    def test_places_ahead_behind_and_the_same(self):
        self.becomes("plain #1 #0\nweak #2\npair #0 #1", ("plain", B(2), B(1)), ("weak", B(3)), ("pair", B(1), B(2)))

    def test_places_with_several_figures(self):
        note = "\n".join(["plain #11 #10"] + ["plain"] * 11)
        self.becomes(note, ("plain", B(12), B(11)), *[("plain",)] * 11)

    def test_lines_that_no_line_leads_to(self):
        self.becomes("plain 1\nplain 2\nweak #2", ("plain", 1), ("plain", 2), ("weak", B(3)))
        self.becomes("plain\nplain #0", ("plain",), ("plain", B(1)))
        house = House(5)
        self.assertEqual((read(house, "plain\nplain #0\nweak #1"), house.names(), walk(house, 1)), (1, [1, 2, 3], [1]))
        self.assertEqual(sweep(house)[0], [2, 3])

    def test_lines_need_not_stand_in_the_order_of_a_walk(self):
        self.becomes("plain #2 #1\nplain 1\nplain 2", ("plain", B(3), B(2)), ("plain", 1), ("plain", 2))

    def test_names_follow_and_places_count_from_the_first_of_them(self):
        house = house_of([("plain", 7)] * 3, slots=[B(1)])
        self.assertEqual(self.reads(house, 60, "weak #1\nplain #0", 2), [("weak", B(5)), ("plain", B(4))])
        self.assertEqual(slots_of(house), [B(1), None, B(4), None])

    def test_the_slot(self):
        house = house_of([("plain",)], slots=[B(1), 5, -5, B(1)])
        self.assertEqual((read(house, "plain"), slots_of(house)), (2, [B(2), 5, -5, B(1)]))
        self.assertEqual((read(house, "plain\nplain", 3), slots_of(house)), (3, [B(2), 5, -5, B(3)]))
        self.assertEqual((read(house, note="weak 1", slot=1), slots_of(house)), (5, [B(2), B(5), -5, B(3)]))

    def test_what_shown_writes_comes_back(self):
        boxes = [("plain", B(4), 7, B(2)), ("weak", B(1)), ("plain",), ("pair", B(2), B(5)),
                 ("plain", B(5), None, -GREATEST, 0, GREATEST, -1, B(3), B(2))]
        for name in range(1, 6):
            house, other = house_of(boxes), House(60)
            note = shown(house, name)
            first = read(house, note)
            self.assertTrue(alike(house, name, first))
            self.assertIsNone(apart(house, name, first))
            self.assertEqual(shown(house, first), note)
            self.assertEqual((read(other, note), shown(other, 1)), (1, note))

    def test_as_long_as_the_room(self):
        for end in ("8", "#0", "#199", "-"):
            house = House(200)
            self.assertEqual((read(house, chain_note(200, end)), len(house.names())), (1, 200))
            self.assertEqual(shown(house, 1), chain_note(200, end))
            self.refused(Crowded, house, read, house, chain_note(200, end))


class NoNotes(Reading):
    def test_no_line_at_all(self):
        self.no_notes("", "\n", "\n\n", " ", "\t")

    def test_unknown_kinds(self):
        self.no_notes("box", "Plain", "PLAIN", "plai", "plainn", "plain#0", "weak#0", "wea 1", "pairs 1 2", "1", "-",
                      "#0", "plain,", "told 1", "plain\nstrong 1", "0plain", "plain0")

    def test_blanks(self):
        self.no_notes(" plain", "plain ", "plain  1", "plain 1 ", " plain 1", "plain 1  2", "weak  1", "weak 1 ",
                      "pair 1 2 ", "pair  1 2", "plain\n plain", "plain \nplain", "plain\nplain ", "plain -  -",
                      "plain # 0", "weak - 5", "plain 1   2")

    def test_tabs(self):
        self.no_notes("plain\t1", "plain\t", "\tplain", "plain 1\t2", "plain 1\t", "plain \t1", "weak\t1", "pair 1\t2",
                      "plain\n\tplain", "plain\t\nplain")

    def test_empty_lines_and_a_line_feed_at_the_end(self):
        self.no_notes("plain\n", "\nplain", "plain\n\nplain", "weak 1\n", "plain\nplain\n", "plain\n\n", "pair 1 2\n")

    def test_too_few_and_too_many_words(self):
        self.no_notes("weak", "weak 1 2", "weak - -", "pair", "pair 1", "pair 1 2 3", "pair - - -",
                      "plain 1 2 3 4 5 6 7 8 9", "plain" + " -" * 9, "plain" + " #0" * 20, "plain\nweak",
                      "plain\npair 1")

    def test_ill_written_numbers(self):
        self.no_notes("plain +1", "plain +0", "plain 00", "plain 01", "plain -01", "plain -0", "plain -00", "plain --",
                      "plain --1", "plain 1-", "plain 1-1", "plain -+1", "plain 1.0", "plain 1e3", "plain 1_0",
                      "plain 0x1", "plain a", "plain None", "plain 1,2", "plain 0-", "weak +5", "pair 1 -0",
                      "pair 007 1", "plain (1)")

    def test_forty_figures_and_forty_one(self):
        for figures in ("9" * 40, "1" + "0" * 39, "1234567890" * 4):
            self.becomes(f"plain {figures} -{figures}", ("plain", int(figures), -int(figures)))
            self.no_notes(f"plain {figures}0", f"plain -{figures}0", f"weak 0{figures}", f"weak -0{figures}",
                          f"pair {figures} {figures}1", f"plain #{figures}", f"plain #{figures}0")
        self.no_notes("plain " + "9" * 5000, "plain -" + "9" * 5000, "plain #" + "9" * 5000, "plain #" + "0" * 41,
                      "plain " + "0" * 40)

    def test_ill_written_places(self):
        self.no_notes("plain #", "plain #-", "plain #-0", "plain #-1", "plain #+0", "plain #00", "plain ##0",
                      "plain 0#", "plain -#0", "plain #0#0", "plain #a", "weak #", "plain #01\nplain", "pair #0 #",
                      "plain #0-", "plain #0 #")

    def test_places_that_are_not_less_than_the_count_of_lines(self):
        self.becomes("plain #1\nplain #0", ("plain", B(2)), ("plain", B(1)))
        self.no_notes("plain #1", "weak #1", "pair #0 #1", "plain #2\nplain", "plain\nplain #2", "plain #10",
                      "plain #9", "\n".join(["plain"] * 9 + ["weak #10"]))

    def test_one_wrong_line_among_right_ones(self):
        self.no_notes("plain #1\nweak #2\npair #0", "plain #1\nweek #2\npair #0 1", "plain #1\nweak #3\npair #0 1")

    def test_other_signs(self):
        for sign in map(chr, range(33, 127)):
            if sign not in "-0123456789%":
                self.no_notes(f"plain {sign}", f"plain 1{sign}", f"{sign}plain")

    def test_short_words_of_every_form(self):
        house = House(200)
        read_well = 0
        for length in range(5):
            for signs in itertools.product("-#019+a \n\t", repeat=length):
                note = "plain " + "".join(signs)
                rows = rows_in(note)
                answer = outcome(read, house, note)
                self.assertEqual(answer is NoNote, rows is None, note)
                read_well += rows is not None
        self.assertGreater(read_well, 100)

    def test_notes_with_a_few_signs_changed(self):
        counts = {True: 0, False: 0}
        for seed in range(4000):
            chance = random.Random(seed)
            signs = list("plain #1 7 -5\npair #2 -\nweak #0\nplain - 10 #3 0")
            for turn in range(chance.randint(1, 3)):
                at = chance.randrange(len(signs))
                signs[at:at + chance.randint(0, 1)] = chance.choice(["", "", "-", "#", "0", "1", "4", " ", "\n", "\t"])
            note = "".join(signs)
            with self.subTest(note):
                counts[self.reads(House(200), 200, note) is NoNote] += 1
        self.assertGreater(min(counts.values()), 300)


class RoomForNotes(Reading):
    def test_no_slot_ahead_of_no_note_ahead_of_crowded(self):
        house = house_of([("plain",), ("plain",), ("weak", B(2))], slots=[B(1), None, B(3)], room=3)
        for slot in NO_SLOTS:
            for note in ("", "plain -0", "plain", "plain\nplain\nplain"):
                self.refused(NoSlot, house, read, house, note, slot)
        for note in ("", "plain -0", "plain\nplain\nplain\nweak"):
            self.refused(NoNote, house, read, house, note)
        self.assertIs(self.reads(house, 3, "plain\nplain"), Crowded)
        self.assertEqual((house.names(), house.field(3, 0)), ([1, 3], None))

    def test_room_that_is_just_enough_without_a_sweep(self):
        house = house_of([("plain",), ("plain",)], slots=[B(1)], room=4)
        self.assertEqual(self.reads(house, 4, "plain #1\nplain", 1), [("plain", B(4)), ("plain",)])
        self.assertEqual(house.names(), [1, 2, 3, 4])

    def test_room_that_is_just_enough_with_a_sweep(self):
        house = house_of([("plain",), ("plain",)], slots=[B(1)], room=3)
        self.assertEqual(self.reads(house, 3, "plain #1\nplain", 1), [("plain", B(4)), ("plain",)])
        self.assertEqual(house.names(), [1, 3, 4])

    def test_all_lines_count_those_too_that_no_line_leads_to(self):
        house = house_of([("plain",)], slots=[B(1)], room=3)
        self.assertIs(self.reads(house, 3, "plain\nplain\nplain"), Crowded)
        self.assertEqual(len(self.reads(house, 3, "plain\nplain")), 2)

    def test_crowded_behind_a_sweep_that_stays_done(self):
        boxes = [("weak", B(2)), ("plain",), ("plain",), ("pair", B(2), 6)]
        house = house_of(boxes, slots=[B(1), B(4)], waits=[(2, 3)], room=4)
        self.assertIs(self.reads(house, 4, "plain\nplain", 1), Crowded)
        self.assertEqual((house.names(), house.words(2), house.held(1)), ([1, 3, 4], [3], B(4)))
        self.assertEqual(picture(house)["fields"], {1: [None], 3: [], 4: [None, None]})
        self.refused(Crowded, house, read, house, "plain\nplain", 1)
        self.assertEqual((read(house, "plain", 1), house.names()), (5, [1, 3, 4, 5]))

    def test_more_lines_than_the_room_ever_has(self):
        house = house_of([("plain",)] * 2, slots=[B(1)], room=2)
        self.assertIs(self.reads(house, 2, "plain\nplain\nplain"), Crowded)
        self.assertEqual(house.names(), [1])
        self.assertIs(outcome(read, House(200), chain_note(201, "-")), Crowded)

    def test_the_slot_still_holds_what_it_held_in_that_sweep(self):
        house = house_of([("plain", B(2)), ("plain",), ("plain",)], slots=[B(1)], room=3)
        self.assertEqual(self.reads(house, 3, "weak #0"), [("weak", B(4))])
        self.assertEqual((house.names(), house.held(0)), ([1, 2, 4], B(4)))
        self.assertEqual(self.reads(house, 3, "plain\nplain"), [("plain",), ("plain",)])
        self.assertEqual((house.names(), house.held(0)), ([4, 5, 6], B(5)))

    def test_nothing_is_held_besides(self):
        house = house_of([("plain",)] * 3, room=3)
        self.assertEqual(len(self.reads(house, 3, "plain\nplain\nplain")), 3)
        self.assertEqual(house.names(), [4, 5, 6])

    def test_no_sweep_where_the_boxes_fit(self):
        boxes = [("plain",), ("plain",), ("weak", B(2)), ("pair", B(2), B(4)), ("plain",)]
        house = house_of(boxes, slots=[B(3), B(4)], waits=[(0, 5)], room=6)
        seen = picture(house)
        self.assertEqual(read(house, "plain", 2), 6)
        seen["kinds"][6], seen["fields"][6], seen["slots"][2], seen["next"] = "plain", [], B(6), 7
        self.assertEqual(picture(house), seen)


class ManyHouses(Reading):
    def test_notes_keep_to_the_points(self):
        counts = {}
        for seed in range(2000):
            house, room = any_tight_house(seed)
            other = any_tight_house(seed + 1)[0]
            name = other.names()[seed % len(other.names())]
            note = shown(other, name)
            with self.subTest(seed=seed):
                self.assertEqual(note, note_of(picture(other), name))
                before = house.names()
                rows = self.reads(house, room, note, seed % 4)
                key = (rows is Crowded, set(house.names()) >= set(before))
                counts[key] = counts.get(key, 0) + 1
                if rows is not Crowded:
                    self.assertEqual(shown(house, house.held(seed % 4)[1]), note)
        # Notes are read and refused, with boxes that go in a sweep and without.
        self.assertEqual(len(counts), 4)
        self.assertGreater(min(counts.values()), 20)


class OverTheHouse(unittest.TestCase):
    def test_two_houses_know_nothing_of_one_another(self):
        house, other = House(5), House(5)
        before = picture(other)
        read(house, "plain #1\nweak #0")
        self.assertEqual(picture(other), before)
        self.assertEqual((read(other, "weak #0"), shown(house, 1), shown(other, 1)),
                         (1, "plain #1\nweak #0", "weak #0"))

    def test_two_boxes_of_one_text_share_nothing(self):
        house = House(5)
        for slot in (0, 1):
            read(house, "plain 1 2", slot)
        house.put(1, 0, 9)
        self.assertEqual((shown(house, 1), shown(house, 2)), ("plain 9 2", "plain 1 2"))
