import random
import unittest

from slotpages.disk import Disk
from slotpages.errors import BadRow, Full, NoRow, Stopped
from slotpages.judging import judge, lost
from slotpages.shelf import Shelf
from support import (NO_NUMBERS, all_slots, disk_of, fewest_to_change, fewest_to_put, free_of, homes, page, pages_of,
                     room_due, row_chain, rows_of, usable)
from test_disk import FREE, GREAT
from test_judging import part, row

SPENT = ("free", 100)
BAD_ROWS = (None, 5, True, "123", "", (), (1, 2), ((1,),), [0] * 301, [100], [-1], [0, 0, GREAT], [[1]],
            [(1, 2)]) + tuple([5, thing] for thing in NO_NUMBERS)
BAD_NAMES = ((), (0,), (0, 0), (0, 0, 0, 0), (0, 0, 1), (0, 1, 0), (1, 0, 0), (12, 0, 0), (0, 8, 0), (-2, 0, 0),
             (0, -8, 0), (0, 0, -1), (0, 0, 100), (GREAT, 0, 0), (0, GREAT, 0), (0, 0, GREAT), (2, 0, 0), (0, 2, 0),
             (0, 3, 100))


def shelf_of(*pages):
    disk = disk_of(pages)
    return disk, Shelf(disk)


class TestRows(unittest.TestCase):
    """Point 5."""

    def check(self, disk, shelf, rows):
        pages = pages_of(disk)
        self.assertEqual(rows_of(pages), rows)
        self.assertEqual(shelf.names(), sorted(rows))
        for name, values in rows.items():
            self.assertEqual(shelf.get(name), values)
            chain = row_chain(pages, name[:2])
            self.assertEqual(shelf.parts(name), len(chain))
            self.assertEqual(len({number for number, _ in chain}), len(chain))
            self.assertTrue(all(all_slots(pages)[place][0] == "part" for place in chain[1:]))
        self.assertIsNone(judge(pages))
        self.assertEqual(lost(pages), [])
        self.assertEqual(shelf.room(), room_due(pages))

    def test_a_fresh_shelf(self):
        disk = Disk(2)
        self.check(disk, Shelf(disk), {})
        self.assertEqual(Shelf(disk).room(), (48, 16))

    def test_rows_of_every_length(self):
        for many in range(0, 49):
            disk = Disk(2)
            shelf = Shelf(disk)
            values = [(7 * k + many) % 100 for k in range(many)]
            name = shelf.put(values)
            self.check(disk, shelf, {name: values})
            self.assertEqual(name[2], 0)
            self.assertEqual(shelf.parts(name), 1 if many <= 24 else 2)
            self.assertEqual(shelf.room(), (48 - many, 16 - shelf.parts(name)))

    def test_a_row_of_as_many_values_as_there_are(self):
        disk = Disk(12)
        shelf = Shelf(disk)
        values = [k % 100 for k in range(288)]
        name = shelf.put(values)
        self.check(disk, shelf, {name: values})
        self.assertEqual(shelf.parts(name), 12)
        self.assertEqual(shelf.room(), (0, 84))
        for many in (289, 300):
            with self.assertRaises(Full):
                shelf.change(name, [1] * many)
        self.assertIsNone(shelf.drop(name))
        self.check(disk, shelf, {})
        self.assertEqual(shelf.room(), (288, 96))
        for many in (289, 300):
            with self.assertRaises(Full):
                shelf.put([1] * many)

    def test_a_row_keeps_its_name_however_it_changes(self):
        disk = Disk(3)
        shelf = Shelf(disk)
        other = shelf.put([99, 98])
        name = shelf.put([1])
        for many in (2, 24, 25, 47, 3, 46, 0, 0, 5, 48, 1):
            values = list(range(50, 50 + many))
            self.assertIsNone(shelf.change(name, values))
            self.check(disk, shelf, {other: [99, 98], name: values})

    def test_dropped_rows_and_their_turns(self):
        disk = Disk(2)
        shelf = Shelf(disk)
        told = {}
        for _ in range(30):
            name = shelf.put([5] * 30)
            self.assertNotIn(name, told)
            told[name] = True
            before = all_slots(pages_of(disk))
            own, away = row_chain(pages_of(disk), name[:2])
            shelf.drop(name)
            after = all_slots(pages_of(disk))
            self.assertEqual(after[own], ("free", name[2] + 1))
            self.assertEqual(after[away], ("free", before[away][1]))
            for known in told:
                with self.assertRaises(NoRow):
                    shelf.get(known)

    def test_a_slot_of_turn_99_is_used_once_more(self):
        pages = [page([("free", 99)] + [SPENT] * 7), page([SPENT] * 8)]
        disk, shelf = shelf_of(*pages)
        self.assertEqual(shelf.room(), (24, 1))
        with self.assertRaises(Full):
            shelf.put([0] * 25)
        name = shelf.put([7] * 24)
        self.assertEqual(name, (0, 0, 99))
        self.assertEqual(shelf.room(), (0, 0))
        shelf.drop(name)
        self.assertEqual(pages_of(disk)[0][0], (SPENT,) * 8)
        self.assertEqual(shelf.room(), (0, 0))
        for values in ([], [1]):
            with self.assertRaises(Full):
                shelf.put(values)

    def test_a_slot_of_turn_100_is_no_part_either(self):
        disk, shelf = shelf_of(page([FREE] + [SPENT] * 7), page([SPENT] * 8), page([SPENT] * 7 + [("free", 99)]))
        self.assertEqual(shelf.room(), (48, 2))
        name = shelf.put(list(range(30)))
        self.check(disk, shelf, {name: list(range(30))})
        turns = {place: slot[1] for place, slot in all_slots(pages_of(disk)).items() if slot[0] != "free"}
        self.assertEqual(turns, {(0, 0): 0, (2, 7): 99})
        shelf.change(name, [1])
        free = [slot for slot in all_slots(pages_of(disk)).values() if slot[0] == "free"]
        self.assertEqual(sorted(slot[1] for slot in free), ([0] if name[0] else [99]) + [100] * 22)
        with self.assertRaises(Full):
            shelf.change(name, [1] * 49)
        shelf.change(name, [1] * 48)
        self.check(disk, shelf, {name: [1] * 48})

    def test_bad_rows(self):
        disk = Disk(2)
        shelf = Shelf(disk)
        name = shelf.put([1, 2, 3])
        kept = pages_of(disk)
        for values in BAD_ROWS:
            with self.assertRaises(BadRow, msg=repr(values)):
                shelf.put(values)
            with self.assertRaises(BadRow, msg=repr(values)):
                shelf.change(name, values)
        self.assertEqual((pages_of(disk), disk.writes()), (kept, 1))
        shelf.change(name, [0, 99])
        self.assertEqual(shelf.get(name), [0, 99])

    def test_names_of_no_row(self):
        disk, shelf = shelf_of(page((row(1, (1, 1)), FREE, FREE, SPENT)), page((FREE, part(3, turn=0))))
        kept = pages_of(disk)
        for name in BAD_NAMES + ((1, 1, 0), (False, 0, 0), (0, False, 0), (0, 0, False)):
            for deed in (shelf.get, shelf.parts, shelf.drop, lambda name: shelf.change(name, [1])):
                with self.assertRaises(NoRow, msg=repr(name)):
                    deed(name)
        self.assertEqual(pages_of(disk), kept)
        self.assertEqual(shelf.parts((0, 0, 0)), 2)

    def test_a_name_below_0_is_not_counted_from_the_end(self):
        _, shelf = shelf_of(page([row(0)] * 8), page([row(0)] * 8))
        self.assertEqual(shelf.get((1, 7, 0)), [])
        for name in ((-1, 7, 0), (1, -1, 0), (-1, -1, 0), (-2, 0, 0), (0, -8, 0)):
            with self.assertRaises(NoRow):
                shelf.get(name)

    def test_a_name_means_its_turn_alone(self):
        disk, shelf = shelf_of(page((row(1, turn=5),), (42,)), page())
        self.assertEqual(shelf.names(), [(0, 0, 5)])
        for turn in (0, 4, 6):
            with self.assertRaises(NoRow):
                shelf.get((0, 0, turn))
        self.assertEqual(shelf.get((0, 0, 5)), [42])

    def test_what_is_handed_in_first_is_refused_first(self):
        _, shelf = shelf_of(page((row(24),)), page([row(0)] * 8))
        with self.assertRaises(NoRow):
            shelf.change((0, 1, 0), None)
        with self.assertRaises(NoRow):
            shelf.change((0, 1, 0), [1] * 300)
        with self.assertRaises(BadRow):
            shelf.change((0, 0, 0), [1] * 300 + [100])
        with self.assertRaises(Full):
            shelf.change((0, 0, 0), [1] * 300)
        with self.assertRaises(BadRow):
            shelf.put([100] * 300)
        with self.assertRaises(Full):
            shelf.put([99] * 300)

    def test_lists_are_neither_changed_nor_kept(self):
        disk = Disk(2)
        shelf = Shelf(disk)
        values = list(range(30))
        name = shelf.put(values)
        self.assertEqual(values, list(range(30)))
        values[0] = 99
        values.append("x")
        self.assertEqual(shelf.get(name), list(range(30)))
        values = [3] * 40
        shelf.change(name, values)
        self.assertEqual(values, [3] * 40)
        values.clear()
        self.assertEqual(shelf.get(name), [3] * 40)

    def test_what_is_told_may_be_changed(self):
        shelf = Shelf(Disk(2))
        name = shelf.put([1, 2])
        shelf.get(name).append(9)
        shelf.names().clear()
        shelf.tidy().append(name)
        self.assertEqual(shelf.get(name), [1, 2])
        self.assertEqual(shelf.names(), [name])
        self.assertEqual(shelf.tidy(), [])

    def test_lost_parts_are_made_free(self):
        pages = [page((row(2, (2, 0)), part(3, (1, 1), begin=4, turn=7), FREE), range(24)),
                 page((part(1, (1, 0), turn=99), part(2, (2, 2), begin=1, turn=98)), range(24)),
                 page((part(4, turn=5), SPENT, part(2, begin=22, turn=6), part(1, (2, 3), begin=9, turn=3)), range(24))]
        self.assertIsNone(judge(pages))
        disk, shelf = shelf_of(*pages)
        self.check(disk, shelf, {(0, 0, 0): [0, 1, 0, 1, 2, 3]})
        slots = all_slots(pages_of(disk))
        for place, turn in (((0, 1), 7), ((1, 0), 99), ((1, 1), 98), ((2, 1), 100), ((2, 2), 6), ((2, 3), 3)):
            self.assertEqual(slots[place], ("free", turn))
        self.assertEqual(slots[2, 0][:2], ("part", 5))
        self.assertEqual(shelf.room(), (66, 21))

    def test_a_shelf_is_made_without_a_write_where_no_part_is_lost(self):
        disk, shelf = shelf_of(page((row(2, (1, 0)),)), page((part(3),)))
        disk.arm(0)
        other = Shelf(disk)
        self.assertEqual(other.names(), shelf.names())

    def test_two_shelves_tell_the_same(self):
        disk = Disk(3)
        shelf = Shelf(disk)
        name = shelf.put([1] * 40)
        gone = shelf.put([2] * 20)
        shelf.drop(gone)
        other = Shelf(disk)
        self.assertEqual(other.get(name), [1] * 40)
        self.assertEqual((other.names(), other.room()), (shelf.names(), shelf.room()))
        with self.assertRaises(NoRow):
            other.get(gone)


class TestRoom(unittest.TestCase):
    """Point 6, and room of point 7."""

    def test_free_cells_that_lie_apart_are_room(self):
        slots = [row(1, begin=at) for at in (1, 4, 8, 13, 19, 23)]
        pages = [page(slots, range(24)), page([row(0)] * 8)]
        disk, shelf = shelf_of(*pages)
        self.assertEqual(shelf.room(), (18, 2))
        with self.assertRaises(Full):
            shelf.put([5] * 19)
        name = shelf.put([5] * 18)
        self.assertEqual(shelf.parts(name), 1)
        self.assertEqual([shelf.get((0, at, 0)) for at in range(6)], [[1], [4], [8], [13], [19], [23]])

    def test_put_with_as_many_values_as_there_is_room(self):
        pages = (page((row(20),)), page([row(3)] + [row(0, begin=24)] * 7), page((row(4), row(17, begin=7))))
        disk, shelf = shelf_of(*pages)
        self.assertEqual(shelf.room(), (7, 13))
        kept = pages_of(disk)
        with self.assertRaises(Full):
            shelf.put([1] * 8)
        self.assertEqual(pages_of(disk), kept)
        name = shelf.put([1, 2, 3, 4, 5, 6, 7])
        self.assertEqual((shelf.get(name), shelf.parts(name)), ([1, 2, 3, 4, 5, 6, 7], 2))
        self.assertEqual(shelf.room(), (0, 11))
        self.assertEqual(shelf.get(shelf.put([])), [])
        with self.assertRaises(Full):
            shelf.put([1])

    def test_no_page_may_be_used(self):
        disk, shelf = shelf_of(page([row(0)] * 8), page([SPENT] * 4 + [row(1, begin=at) for at in range(4)]))
        self.assertEqual(shelf.room(), (0, 0))
        for many in (0, 1, 300):
            with self.assertRaises(Full):
                shelf.put([0] * many)
        with self.assertRaises(Full):
            shelf.change((0, 0, 0), [1] * 25)
        shelf.change((0, 0, 0), [1] * 24)
        with self.assertRaises(Full):
            shelf.change((0, 1, 0), [1])
        shelf.change((0, 1, 0), [])
        shelf.change((1, 7, 0), [1] * 21)
        with self.assertRaises(Full):
            shelf.change((1, 7, 0), [1] * 22)
        self.assertEqual(shelf.get((1, 7, 0)), [1] * 21)

    def test_a_full_page_takes_a_row_of_none(self):
        disk, shelf = shelf_of(page((row(24),)), page((row(24),)))
        self.assertEqual(shelf.room(), (0, 14))
        name = shelf.put([])
        self.assertEqual((shelf.get(name), shelf.parts(name), shelf.room()), ([], 1, (0, 13)))
        self.assertIsNone(judge(pages_of(disk)))
        with self.assertRaises(Full):
            shelf.put([1])
        with self.assertRaises(Full):
            shelf.change(name, [1])

    def test_change_counts_what_the_row_has_in_its_own_page_and_not_elsewhere(self):
        pages = (page((row(10, (1, 0)), row(8, begin=10))), page((part(14), row(5, begin=14))))
        name = (0, 0, 0)
        for many, parts in ((16, 1), (17, 2), (21, 2)):
            _, shelf = shelf_of(*pages)
            shelf.change(name, [3] * many)
            self.assertEqual((shelf.get(name), shelf.parts(name)), ([3] * many, parts))
        disk, shelf = shelf_of(*pages)
        for many in (22, 24, 30, 35):
            with self.assertRaises(Full):
                shelf.change(name, [3] * many)
        self.assertEqual(pages_of(disk), list(pages))

    def test_the_slot_of_an_old_part_is_not_yet_free(self):
        pages = (page((row(24, (1, 0)),)), page([part(1)] + [row(0, begin=1)] * 7))
        disk, shelf = shelf_of(*pages)
        with self.assertRaises(Full):
            shelf.change((0, 0, 0), [3] * 25)
        shelf.change((0, 0, 0), [3] * 24)
        shelf.change((0, 0, 0), [4] * 25)
        self.assertEqual(shelf.parts((0, 0, 0)), 2)

    def test_a_row_lies_in_the_fewest_slots(self):
        sizes = (20, 14, 22, 4, 19)
        pages = [page((row(size),)) for size in sizes]
        for many, parts in ((0, 1), (20, 1), (21, 2), (30, 2), (31, 3), (35, 3), (36, 4), (39, 4), (40, 5), (41, 5)):
            _, shelf = shelf_of(*pages)
            self.assertEqual(shelf.parts(shelf.put([1] * many)), parts, many)
        for many, parts in ((24, 1), (25, 2), (44, 2), (45, 3), (54, 3), (55, 4), (59, 4), (60, 5), (61, 5)):
            _, shelf = shelf_of(*pages)
            shelf.change((0, 0, 0), [1] * many)
            self.assertEqual(shelf.parts((0, 0, 0)), parts, many)

    def test_a_row_may_have_none_in_its_own_slot(self):
        pages = (page((row(24), row(0))), page((row(4),)))
        disk, shelf = shelf_of(*pages)
        shelf.change((0, 1, 0), [6] * 20)
        self.assertEqual((shelf.get((0, 1, 0)), shelf.parts((0, 1, 0))), ([6] * 20, 2))
        self.assertEqual(shelf.tidy(), [])
        shelf.drop((0, 0, 0))
        self.assertEqual(shelf.tidy(), [(0, 1, 0)])
        self.assertEqual((shelf.get((0, 1, 0)), shelf.parts((0, 1, 0))), ([6] * 20, 1))


class TestTidy(unittest.TestCase):
    """Point 6, tidy."""

    def test_rows_come_home_where_their_page_has_the_room(self):
        for other, told in ((17, []), (16, [(0, 0, 0)]), (0, [(0, 0, 0)])):
            disk, shelf = shelf_of(page((row(3, (1, 2)), row(other, begin=3)), range(24)),
                                   page((FREE, FREE, part(5, begin=19, turn=4)), range(24)))
            self.assertEqual(shelf.tidy(), told)
            self.assertEqual(shelf.get((0, 0, 0)), [0, 1, 2, 19, 20, 21, 22, 23])
            self.assertEqual(shelf.get((0, 1, 0)), list(range(3, 3 + other)))
            self.assertEqual(shelf.parts((0, 0, 0)), 1 if told else 2)
            self.assertEqual(pages_of(disk)[1][0][2], ("free", 4) if told else ("part", 4, 19, 5, None))
            self.assertEqual(shelf.tidy(), [])

    def test_a_row_whose_turn_is_over_does_not_come_home(self):
        # The second row makes the room in which the first one would have come home.
        pages = (page((row(10, (1, 1)), part(4, begin=10), row(8, begin=14))), page((row(5, (0, 1)), part(3, begin=5))))
        disk, shelf = shelf_of(*pages)
        self.assertEqual(shelf.tidy(), [(1, 0, 0)])
        self.assertEqual((shelf.parts((0, 0, 0)), shelf.parts((1, 0, 0))), (2, 1))
        self.assertEqual(shelf.tidy(), [(0, 0, 0)])
        self.assertEqual(shelf.tidy(), [])

    def test_a_row_that_came_home_takes_the_room_of_a_later_one(self):
        pages = (page((row(5, (1, 0)), row(5, (1, 1), begin=5), row(6, begin=10))), page((part(5), part(4, begin=5))))
        disk, shelf = shelf_of(*pages)
        self.assertEqual(shelf.tidy(), [(0, 0, 0)])
        self.assertEqual((shelf.parts((0, 0, 0)), shelf.parts((0, 1, 0))), (1, 2))
        self.assertEqual(shelf.tidy(), [])
        shelf.change((0, 2, 0), [1, 2, 3])
        self.assertEqual(shelf.tidy(), [(0, 1, 0)])

    def test_a_row_that_came_home_makes_room_for_a_later_one(self):
        pages = (page((row(5, (1, 1)), FREE)), page((row(5, (2, 0)), part(4, begin=5), row(15, begin=9))),
                 page((part(3), row(1, begin=3))))
        disk, shelf = shelf_of(*pages)
        self.assertEqual(shelf.tidy(), [(0, 0, 0), (1, 0, 0)])
        self.assertEqual([shelf.parts(name) for name in shelf.names()], [1, 1, 1, 1])
        self.assertEqual(lost(pages_of(disk)), [])

    def test_none_in_a_shelf_of_straight_rows(self):
        disk, shelf = shelf_of(page((row(5), row(0))), page((row(24),)))
        self.assertEqual(shelf.tidy(), [])
        self.assertEqual(disk.writes(), 2)


class TestLongPlays(unittest.TestCase):
    """Points 1, 5, 6 and 7 over many deeds, each against an account that is reckoned from the pages."""

    def test_many_deeds(self):
        for seed in range(40):
            chance = random.Random(seed)
            disk = Disk(chance.choice((2, 2, 3, 4, 6)))
            self.names = {}
            self.rows = {}
            shelf = Shelf(disk)
            for step in range(120):
                self.deed(chance, disk, shelf)
                if step % 10 == 9:
                    shelf = Shelf(disk)

    def deed(self, chance, disk, shelf):
        before = pages_of(disk)
        word = chance.choice(("put", "put", "put", "change", "change", "change", "drop", "drop", "tidy"))
        if word == "put":
            name, fewest = self.put(chance, shelf, before)
        elif word == "tidy" or not self.rows:
            name = fewest = None
            self.assertEqual(shelf.tidy(), homes(before))
        else:
            name, fewest = self.change(chance, shelf, before, word)
        after = pages_of(disk)
        self.assertEqual(rows_of(after), self.rows)
        self.assertEqual({known: shelf.get(known) for known in shelf.names()}, self.rows)
        if fewest is not None:
            self.assertEqual(shelf.parts(name), fewest)
        self.check_slots(before, after)
        self.assertIsNone(judge(after))
        self.assertEqual(lost(after), [])
        self.assertEqual(shelf.room(), room_due(after))
        self.assertEqual(shelf.names(), sorted(self.rows))

    def values(self, chance, most):
        many = chance.choice((0, 1, most, most + 1, chance.randrange(0, 8), chance.randrange(0, most + 1)))
        return [chance.randrange(100) for _ in range(many)]

    def put(self, chance, shelf, before):
        values = self.values(chance, room_due(before)[0])
        fewest = fewest_to_put(before, len(values))
        if fewest is None:
            with self.assertRaises(Full):
                shelf.put(values)
            return None, None
        name = shelf.put(values)
        self.assertNotIn(name, self.names)
        self.assertEqual(before[name[0]][0][name[1]], ("free", name[2]))
        self.names[name] = True
        self.rows[name] = values
        return name, fewest

    def change(self, chance, shelf, before, word):
        name = chance.choice(sorted(self.rows))
        if word == "drop":
            shelf.drop(name)
            del self.rows[name]
            return None, None
        own = free_of(before[name[0]]) + before[name[0]][0][name[1]][3]
        most = own + sum(free_of(sheet) for number, sheet in enumerate(before) if number != name[0] and usable(sheet))
        values = self.values(chance, most)
        fewest = fewest_to_change(before, name, len(values))
        if fewest is None:
            with self.assertRaises(Full):
                shelf.change(name, values)
            return None, None
        shelf.change(name, values)
        self.rows[name] = values
        return name, fewest

    def check_slots(self, before, after):
        old, new = all_slots(before), all_slots(after)
        for place in old:
            dropped = old[place][0] == "row" and new[place][0] != "row"
            self.assertEqual(new[place][1], old[place][1] + dropped)
            if new[place][0] != "free" and new[place][0] != old[place][0]:
                self.assertEqual(old[place][0], "free")
                self.assertLess(old[place][1], 100)
        for name in rows_of(after):
            chain = row_chain(after, name[:2])
            self.assertEqual(len({number for number, _ in chain}), len(chain))
            self.assertTrue(all(new[place][0] == "part" for place in chain[1:]))

    def test_a_slot_goes_through_all_its_turns(self):
        disk, shelf = shelf_of(page([SPENT] * 7 + [("free", 90)]), page([SPENT] * 8))
        for turn in range(90, 100):
            name = shelf.put([turn] * 24)
            self.assertEqual(name, (0, 7, turn))
            shelf.drop(name)
        with self.assertRaises(Full):
            shelf.put([])


class TestStopped(unittest.TestCase):
    """Point 7: what the disk refuses with Stopped, the shelf does."""

    def test_all_is_refused_while_the_disk_stands(self):
        disk = Disk(2)
        shelf = Shelf(disk)
        name = shelf.put([1])
        disk.arm(0)
        with self.assertRaises(Stopped):
            shelf.put([2])
        for deed in (lambda: shelf.put([2]), lambda: shelf.get(name), lambda: shelf.names(), lambda: shelf.tidy(),
                     lambda: shelf.change(name, []), lambda: shelf.drop(name), lambda: shelf.parts(name),
                     lambda: shelf.room(), lambda: Shelf(disk)):
            with self.assertRaises(Stopped):
                deed()
        disk.again()
        self.assertEqual(rows_of(pages_of(disk)), {name: [1]})
