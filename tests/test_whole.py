"""Points 1, 2, 3 and 5 over the whole program: what is refused, in which order, and what nothing changes."""

import unittest

from slotpages.disk import Disk
from slotpages.errors import (BadCount, BadDisk, BadPage, BadRow, BadText, Full, NoPage, NoRow, PageError, Stopped)
from slotpages.judging import judge, lost
from slotpages.notes import read, written
from slotpages.plays import Play, played, read_steps, written_steps
from slotpages.shelf import Shelf
from slotpages.spread import apart, fewest, held
from slotpages.walk import Walk
from support import NO_NUMBERS, disk_of, page, pages_of
from test_disk import BAD_PAGES, BAD_SLOTS, FREE, GREAT
from test_judging import part, row
from test_shelf import BAD_NAMES, BAD_ROWS

SPENT = ("free", 100)
PAGES = (page((row(3, (1, 2)), row(2, begin=3, turn=7), SPENT), range(24)),
         page((row(0), FREE, part(5, begin=9, turn=1)), range(24)), page([SPENT] * 8))


def numbers_beyond(low, high):
    """What is no number from low to high, where numbers are told."""
    return (low - 1, high + 1, GREAT, -GREAT) + NO_NUMBERS


def asked(disk, shelf):
    """Everything that can be asked of a disk, of a shelf, and of the pages, told once."""
    sheets = pages_of(disk)
    names = shelf.names()
    walk = Walk(shelf)
    steps = [walk.step() for _ in range(len(names) + 1)]
    return (disk.pages(), disk.writes(), names, shelf.room(), [shelf.get(name) for name in names],
            [shelf.parts(name) for name in names], steps, judge(sheets), lost(sheets), held(sheets),
            fewest(sheets, 20), apart(sheets, []), written(sheets), sheets)


class TestRefused(unittest.TestCase):

    def setUp(self):
        self.disk = disk_of(PAGES)
        self.shelf = Shelf(self.disk)
        self.kept = asked(self.disk, self.shelf)

    def refused(self, kind, deed, *things):
        """Check that a deed is refused by just this kind, twice over, and that nothing is changed by it."""
        for _ in range(2):
            with self.assertRaises(PageError, msg=repr(things)) as told:
                deed(*things)
            self.assertIs(type(told.exception), kind)
            self.assertIsInstance(told.exception, ValueError)
        self.assertEqual(asked(self.disk, self.shelf), self.kept)

    def test_bad_disk(self):
        for many in (2, 12):
            self.assertEqual((Disk(many).pages(), len(Play(many).sheets()), len(played(many, [])[1].sheets())),
                             (many, many, many))
        for many in numbers_beyond(2, 12):
            self.refused(BadDisk, Disk, many)
            self.refused(BadDisk, Play, many)
            self.refused(BadDisk, played, many, [("tidy",)])

    def test_no_page(self):
        for number in (0, 2):
            self.assertEqual(self.disk.page(number), PAGES[number])
        for number in numbers_beyond(0, 2):
            self.refused(NoPage, self.disk.page, number)
            self.refused(NoPage, self.disk.write, number, page())
            self.refused(NoPage, self.disk.write, number, None)

    def test_bad_page(self):
        sheets = BAD_PAGES + tuple(page((slot,)) for slot in BAD_SLOTS)
        for turn in numbers_beyond(0, 99):
            sheets += (page((("row", turn, 0, 0, None),)), page((("part", turn, 0, 1, None),)))
        for turn in numbers_beyond(0, 100):
            sheets += (page((("free", turn),)),)
        for number in numbers_beyond(0, 11):
            sheets += (page((row(0, (number, 0)),)), page((part(1, (number, 0)),)))
        for at in numbers_beyond(0, 7):
            sheets += (page((row(0, (0, at)),)), page((part(1, (0, at)),)))
        for cell in numbers_beyond(0, 99):
            sheets += (page((), (cell,)), page((), (0,) * 23 + (cell,)))
        for sheet in sheets:
            self.refused(BadPage, self.disk.write, 0, sheet)
            self.refused(BadPage, written, [page(), sheet])
            at = judge([page(), sheet])
            self.assertEqual(at[0], 1)

    def test_bad_count(self):
        for count in numbers_beyond(0, 10 ** 6):
            self.refused(BadCount, self.disk.arm, count)
        # None of them has armed it.
        for _ in range(5):
            self.disk.write(2, PAGES[2])
        for count in (0, 10 ** 6):
            self.disk.arm(count)

    def test_bad_count_keeps_the_count_that_stands(self):
        self.disk.arm(1)
        for count in numbers_beyond(0, 10 ** 6):
            with self.assertRaises(BadCount):
                self.disk.arm(count)
        self.disk.write(2, PAGES[2])
        with self.assertRaises(Stopped):
            self.disk.write(2, PAGES[2])

    def test_bad_row(self):
        name = self.shelf.names()[0]
        for values in BAD_ROWS + tuple([1, 2, value] for value in numbers_beyond(0, 99)):
            self.refused(BadRow, self.shelf.put, values)
            self.refused(BadRow, self.shelf.change, name, values)
        for values in ([], [0], [99], [0, 99] * 3):
            self.shelf.change(name, values)
            self.assertEqual(self.shelf.get(name), values)

    def test_how_many_values(self):
        name = self.shelf.names()[0]
        for many, kind in ((300, Full), (301, BadRow), (400, BadRow)):
            self.refused(kind, self.shelf.put, [1] * many)
            self.refused(kind, self.shelf.change, name, [1] * many)

    def test_no_row(self):
        names = tuple(name for name in BAD_NAMES if name not in ((0, 1, 0), (1, 0, 0)))
        for thing in numbers_beyond(0, 2):
            names += ((thing, 0, 0),)
        for thing in numbers_beyond(0, 7):
            names += ((0, thing, 0),)
        for thing in numbers_beyond(0, 99):
            names += ((0, 0, thing),)
        # Where other rows are, a part, free slots, spent ones; and names of true rows with another turn.
        names += ((1, 2, 1), (1, 1, 0), (0, 2, 100), (0, 1, 6), (0, 1, 8), (0, 0, 99), (2, 0, 0), (0, True, 7))
        for name in names:
            for deed in (self.shelf.get, self.shelf.parts, self.shelf.drop):
                self.refused(NoRow, deed, name)
            self.refused(NoRow, self.shelf.change, name, [1])
            self.refused(NoRow, self.shelf.change, name, [100])
            self.refused(NoRow, self.shelf.change, name, [1] * 300)

    def test_full_comes_last(self):
        name = self.shelf.names()[0]
        self.refused(Full, self.shelf.put, [1] * 300)
        self.refused(BadRow, self.shelf.put, [1] * 299 + [100])
        self.refused(Full, self.shelf.change, name, [1] * 300)
        self.refused(BadRow, self.shelf.change, name, [1] * 299 + [-1])
        self.refused(Full, fewest, list(PAGES), 300)
        self.refused(Full, fewest, [], 0)

    def test_bad_text(self):
        for deed in (read, read_steps):
            for text, line in (("no", 0), ("\n", 0), ("tidy\n\n", 1 if deed is read_steps else 0)):
                self.refused(BadText, deed, text)
                with self.assertRaises(BadText) as told:
                    deed(text)
                self.assertEqual(told.exception.line, line)

    def test_stopped_comes_ahead_of_all_else(self):
        self.disk.arm(0)
        with self.assertRaises(Stopped):
            self.shelf.put([1])
        for deed in (lambda: self.disk.page(99), lambda: self.disk.write(99, None), lambda: self.disk.write(0, None),
                     lambda: self.shelf.put(None), lambda: self.shelf.put([1] * 300), lambda: self.shelf.get((9, 9, 9)),
                     lambda: self.shelf.change((9, 9, 9), None), lambda: self.shelf.drop(()),
                     lambda: self.shelf.parts((0, 0, 5)), lambda: Shelf(self.disk), lambda: Walk(self.shelf).step()):
            with self.assertRaises(Stopped):
                deed()
        self.disk.again()
        self.assertEqual(asked(self.disk, Shelf(self.disk)), self.kept)


class TestAsked(unittest.TestCase):
    """Point 1."""

    def test_what_only_asks_writes_nothing_and_tells_the_same_again(self):
        disk = disk_of(PAGES)
        shelf = Shelf(disk)
        first = asked(disk, shelf)
        disk.arm(0)
        for _ in range(3):
            self.assertEqual(asked(disk, shelf), first)
        self.assertEqual(asked(disk, Shelf(disk)), first)

    def test_what_is_told_may_be_changed(self):
        disk = disk_of(PAGES)
        shelf = Shelf(disk)
        first = asked(disk, shelf)
        for told in asked(disk, shelf):
            if isinstance(told, list):
                for thing in told:
                    spoil(thing)
                told.clear()
        self.assertEqual(asked(disk, shelf), first)

    def test_what_is_told_by_a_shelf_does_not_change_by_its_deeds(self):
        disk = disk_of(PAGES)
        shelf = Shelf(disk)
        told = asked(disk, shelf)
        again = asked(disk, shelf)
        for name in shelf.names():
            shelf.change(name, [50] * 10)
        shelf.drop(shelf.put([1]))
        self.assertEqual(told, again)

    def test_lists_are_neither_changed_nor_kept(self):
        sheets, others, steps = list(PAGES), [page()], [("put", (1,)), ("get", 0)]
        for deed in (lambda: judge(sheets), lambda: lost(sheets), lambda: held(sheets), lambda: fewest(sheets, 30),
                     lambda: apart(sheets, others), lambda: apart(others, sheets), lambda: written(sheets),
                     lambda: written_steps(steps), lambda: played(2, steps)[0]):
            told = deed()
            self.assertEqual((sheets, others, steps), (list(PAGES), [page()], [("put", (1,)), ("get", 0)]))
            due = repr(told)
            self.assertEqual(repr(deed()), due)
            for handed in (sheets, others, steps):
                handed.clear()
            self.assertEqual(repr(told), due)
            sheets += PAGES
            others += [page()]
            steps += [("put", (1,)), ("get", 0)]
            self.assertEqual(repr(deed()), due)

    def test_shelves_on_two_disks_have_nothing_to_do_with_each_other(self):
        disks = [Disk(2), Disk(2)]
        shelves = [Shelf(disk) for disk in disks]
        walks = [Walk(shelf) for shelf in shelves]
        play = Play(2)
        name = shelves[0].put([1] * 30)
        self.assertEqual((shelves[1].names(), shelves[1].room(), disks[1].writes()), ([], (48, 16), 0))
        self.assertIsNone(walks[1].step())
        self.assertEqual(shelves[1].put([2]), play.do(("put", (3,))))
        self.assertEqual(walks[0].step(), (name, [1] * 30))
        disks[0].arm(0)
        with self.assertRaises(Stopped):
            shelves[0].drop(name)
        self.assertEqual((shelves[1].get(shelves[1].names()[0]), play.do(("get", 0))), ([2], [3]))
        shelves[1].drop(shelves[1].names()[0])
        disks[0].again()
        self.assertEqual(Shelf(disks[0]).get(name), [1] * 30)
        self.assertEqual((shelves[1].names(), play.do(("parts", 0))), ([], 1))


def spoil(thing):
    if isinstance(thing, list):
        thing.append(None)
    elif isinstance(thing, tuple):
        for inner in thing:
            spoil(inner)
