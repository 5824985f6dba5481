"""Point 7: the disk is stopped at each write of each deed, and at each write of the shelves that are made behind."""

import random
import unittest

from slotpages.errors import Full, Stopped
from slotpages.judging import judge, lost
from slotpages.shelf import Shelf
from support import all_slots, disk_of, page, pages_of, room_due, rows_of
from test_disk import FREE
from test_judging import part, row

SPENT = ("free", 100)


def stops_of(pages, deed):
    """For each write of a deed, the pages as they are when the disk stopped there; and the pages behind the deed."""
    stopped = []
    while True:
        disk = disk_of(pages)
        shelf = Shelf(disk)
        disk.arm(len(stopped))
        try:
            deed(shelf)
        except Stopped:
            disk.again()
            stopped.append(pages_of(disk))
        else:
            disk.again()
            return stopped, pages_of(disk)


def turns_of(pages):
    return {place: slot[1] for place, slot in all_slots(pages).items()}


class TestStops(unittest.TestCase):

    def mend(self, pages, rows):
        """Make a shelf of pages that a stop left, stop it at each of its writes too, and check what it has."""
        count = 0
        made = False
        while not made:
            disk = disk_of(pages)
            disk.arm(count)
            try:
                shelf = Shelf(disk)
                made = True
            except Stopped:
                disk.again()
                self.check_stopped(pages_of(disk), rows, turns_of(pages))
                if count == 0:
                    self.assertEqual(pages_of(disk), pages)
                else:
                    self.mend_on(disk, pages, rows)
            count += 1
        disk.again()
        self.check_mended(disk, shelf, pages, rows)

    def mend_on(self, disk, pages, rows):
        """Make shelves that are each stopped at their second write, till one is made."""
        while True:
            disk.arm(1)
            try:
                shelf = Shelf(disk)
                break
            except Stopped:
                disk.again()
                self.check_stopped(pages_of(disk), rows, turns_of(pages))
        disk.again()
        self.check_mended(disk, shelf, pages, rows)

    def check_stopped(self, pages, rows, turns):
        self.assertIsNone(judge(pages))
        self.assertEqual(rows_of(pages), rows)
        self.assertEqual(turns_of(pages), turns)

    def check_mended(self, disk, shelf, pages, rows):
        self.check_stopped(pages_of(disk), rows, turns_of(pages))
        self.assertEqual(lost(pages_of(disk)), [])
        self.assertEqual(shelf.room(), room_due(pages))
        self.assertEqual(shelf.names(), sorted(rows))
        self.assertEqual({name: shelf.get(name) for name in shelf.names()}, rows)

    def stop_everywhere(self, pages, deed):
        """Stop a deed at each write; tell the pages behind it."""
        ahead = rows_of(pages)
        stopped, last = stops_of(pages, deed)
        behind = rows_of(last)
        done = False
        for left in stopped:
            self.assertIsNone(judge(left))
            rows = rows_of(left)
            self.assertIn(rows, (ahead, behind))
            self.assertTrue(not done or rows == behind)
            done = rows == behind
            self.mend(left, rows)
        self.assertEqual(lost(last), [])
        return last, len(stopped)

    def test_put(self):
        pages = [page((row(20),), [1] * 20), page((row(15),), [2] * 15), page((row(0), row(21)), [3] * 21)]
        for many, parts in ((0, 1), (9, 1), (10, 2), (13, 2), (14, 3), (16, 3)):
            last, writes = self.stop_everywhere(pages, lambda shelf: shelf.put([9] * many))
            self.assertEqual(writes, parts)
            self.assertEqual(sorted(rows_of(last).values()), sorted([[1] * 20, [2] * 15, [], [3] * 21, [9] * many]))

    def test_change(self):
        pages = [page((row(10, (1, 3)), row(8, begin=10)), range(24)),
                 page((FREE, row(10), FREE, part(8, (2, 7), begin=12)), range(24)),
                 page([row(2, begin=3)] + [FREE] * 6 + [part(19, begin=5, turn=99)], range(24))]
        name = (0, 0, 0)
        for many in (0, 1, 10, 16, 17, 22, 23, 25):
            last, writes = self.stop_everywhere(pages, lambda shelf: shelf.change(name, [77] * many))
            self.assertEqual(rows_of(last)[name], [77] * many)
            self.assertGreaterEqual(writes, 3)
        with self.assertRaises(Full):
            Shelf(disk_of(pages)).change(name, [77] * 26)

    def test_drop(self):
        pages = [page((row(5, (2, 1)), row(3, begin=5)), range(24)), page((part(24, (3, 0), turn=99),), range(24)),
                 page((FREE, part(4, (1, 0), turn=6)), range(24)), page((part(7, begin=17),), range(24))]
        last, writes = self.stop_everywhere(pages, lambda shelf: shelf.drop((0, 0, 0)))
        self.assertEqual(writes, 4)
        self.assertEqual(rows_of(last), {(0, 1, 0): [5, 6, 7]})
        turns = dict.fromkeys(all_slots(pages), 0) | {(0, 0): 1, (1, 0): 99, (2, 1): 6}
        self.assertEqual(turns_of(last), turns)

    def test_tidy(self):
        pages = [page((row(5, (1, 1)), FREE), range(24)),
                 page((row(5, (2, 0)), part(4, (3, 3), begin=5), row(15, begin=9)), range(24)),
                 page((part(3), row(1, begin=3)), range(24)), page([FREE] * 3 + [part(9)], range(24))]
        stopped, last = stops_of(pages, lambda shelf: shelf.tidy())
        self.assertEqual(len(stopped), 5)
        for left in stopped:
            self.assertIsNone(judge(left))
            self.mend(left, rows_of(pages))
            disk = disk_of(left)
            Shelf(disk).tidy()
            self.assertEqual(all_slots(pages_of(disk)), all_slots(last))

    def test_a_shelf_of_lost_chains_and_rings(self):
        pages = [page((part(1, (1, 1)), part(2, (2, 0), begin=1), row(3, (2, 1), begin=3, turn=8), SPENT), range(24)),
                 page((part(3, (0, 1)), part(4, (1, 2), begin=3), part(5, (2, 2), begin=7, turn=99)), range(24)),
                 page((part(2, (1, 0)), part(2, begin=2), part(4, (0, 0), begin=4), part(1, (2, 3), begin=9)),
                      range(24))]
        self.assertIsNone(judge(pages))
        self.assertEqual(len(lost(pages)), 8)
        self.mend(pages, {(0, 2, 8): [3, 4, 5, 2, 3]})

    def test_nearly_full_pages(self):
        pages = [page([row(3, begin=3 * at) for at in range(7)], [5] * 24),
                 page([row(3, begin=3 * at) for at in range(7)], [6] * 24),
                 page([row(24)] + [row(0)] * 6, [7] * 24)]
        last, _ = self.stop_everywhere(pages, lambda shelf: shelf.put([8] * 6))
        name = (set(rows_of(last)) - set(rows_of(pages))).pop()
        self.assertEqual(Shelf(disk_of(last)).room(), (0, 1))
        last, _ = self.stop_everywhere(last, lambda shelf: shelf.change(name, [9] * 3))
        self.assertEqual(Shelf(disk_of(last)).parts(name), 1)
        last, _ = self.stop_everywhere(last, lambda shelf: shelf.change(name, [4] * 6))
        last, _ = self.stop_everywhere(last, lambda shelf: shelf.drop((name[0], 3, 0)))
        last, writes = self.stop_everywhere(last, lambda shelf: shelf.tidy())
        self.assertEqual(writes, 2)
        self.assertEqual(rows_of(last)[name], [4] * 6)
        self.stop_everywhere(last, lambda shelf: shelf.drop(name))

    def test_a_row_of_all_pages(self):
        pages = [page()] * 12
        last, writes = self.stop_everywhere(pages, lambda shelf: shelf.put([k % 100 for k in range(288)]))
        self.assertEqual(writes, 12)
        name, = rows_of(last)
        last, writes = self.stop_everywhere(last, lambda shelf: shelf.change(name, [5]))
        self.assertEqual(writes, 12)
        last, _ = self.stop_everywhere(last, lambda shelf: shelf.change(name, [6] * 288))
        self.stop_everywhere(last, lambda shelf: shelf.drop(name))

    def test_a_new_name_is_told_behind_a_stopped_put(self):
        disk = disk_of([page(), page()])
        shelf = Shelf(disk)
        gone = shelf.put([1] * 30)
        disk.arm(1)
        with self.assertRaises(Stopped):
            shelf.drop(gone)
        disk.again()
        shelf = Shelf(disk)
        self.assertEqual(shelf.names(), [])
        disk.arm(1)
        with self.assertRaises(Stopped):
            shelf.put([2] * 30)
        disk.again()
        shelf = Shelf(disk)
        self.assertEqual((shelf.names(), shelf.room()), ([], (48, 16)))
        self.assertNotEqual(shelf.put([2] * 30), gone)

    def test_many_deeds(self):
        for seed in range(25):
            chance = random.Random(seed)
            pages = [page()] * chance.choice((2, 3, 3, 4))
            for _ in range(25):
                deed = self.some_deed(chance, pages)
                if deed is not None:
                    pages, _ = self.stop_everywhere(pages, deed)

    def some_deed(self, chance, pages):
        """A deed that isn't refused, most often one for which the room just does; None where there is none."""
        names = sorted(rows_of(pages))
        word = chance.choice(("put", "put", "change", "change", "drop", "tidy"))
        cells, slots = room_due(pages)
        many = chance.choice((cells, max(0, cells - 1), chance.randrange(cells + 1), min(cells, 3)))
        values = [chance.randrange(100) for _ in range(many)]
        if word == "tidy":
            return lambda shelf: shelf.tidy()
        if word == "put":
            return (lambda shelf: shelf.put(values)) if slots else None
        if not names:
            return None
        name = chance.choice(names)
        if word == "drop":
            return lambda shelf: shelf.drop(name)
        return lambda shelf: shelf.change(name, values)
