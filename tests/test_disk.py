import unittest

from slotpages.disk import Disk
from slotpages.errors import BadCount, BadDisk, BadPage, NoPage, Stopped
from support import NO_NUMBERS, page, pages_of

GREAT = 10 ** 20 - 1

GOOD_SLOTS = (
    ("free", 0), ("free", 99), ("free", 100),
    ("row", 0, 0, 0, None), ("row", 99, 0, 24, (11, 7)), ("row", 5, 23, 1, (0, 0)), ("row", 5, 24, 0, None),
    ("part", 0, 0, 1, None), ("part", 99, 0, 24, (11, 0)), ("part", 5, 23, 1, (0, 7)),
)

BAD_SLOTS = (
    None, 0, True, "free", "", (), ("free",), ("free", 0, 0), ("free", -1), ("free", 101), ("free", GREAT),
    ("free", 0, 0, 0, None), ("Free", 0), ("", 0), (None, 0), (("free",), 0), (0, "free"),
    ("rows", 0, 0, 1, None), ("", 0, 0, 1, None), (None, 0, 0, 1, None), (("part",), 0, 0, 1, None),
    ("row",), ("row", 0), ("row", 0, 0, 0), ("row", 0, 0, 0, None, None), ("rows", 0, 0, 0, None),
    ("row", -1, 0, 0, None), ("row", 100, 0, 0, None), ("row", 0, -1, 0, None), ("row", 0, -1, 1, None),
    ("row", 0, 0, -1, None), ("row", 0, 0, 25, None), ("row", 0, 24, 1, None), ("row", 0, 23, 2, None),
    ("row", 0, 25, 0, None), ("row", 0, 25, -1, None), ("row", 0, 0, 0, ()), ("row", 0, 0, 0, (0,)),
    ("row", 0, 0, 0, (0, 0, 0)), ("row", 0, 0, 0, (12, 0)), ("row", 0, 0, 0, (0, 8)), ("row", 0, 0, 0, (-1, 0)),
    ("row", 0, 0, 0, (0, -1)), ("row", 0, 0, 0, 0), ("row", 0, 0, 0, "-"), ("row", 0, 0, 0, False),
    ("part", 0, 0, 0, None), ("part", 100, 0, 1, None), ("part", 0, 24, 0, None), ("part", 0, 24, 1, None),
    ("part", 0, 0, 25, None), ("part", 0, 0, 1), ("part", 0, 0, 1, (12, 7)), ("part", 0, 0, 1, (11, 8)),
) + tuple(("free", thing) for thing in NO_NUMBERS) + tuple(
    slot for thing in NO_NUMBERS for slot in (
        ("row", thing, 0, 0, None), ("row", 0, thing, 1, None), ("part", 0, 0, thing, None),
        ("row", 0, 0, 0, (thing, 0)), ("part", 0, 0, 1, (0, thing)))
)

FREE = ("free", 0)

BAD_PAGES = (
    None, 0, True, "", "page", (), (page()[0],), page() + ((),), (page()[1], page()[0]),
    ((FREE,) * 7, (0,) * 24), ((FREE,) * 9, (0,) * 24), ((FREE,) * 8, (0,) * 23), ((FREE,) * 8, (0,) * 25),
    (None, (0,) * 24), ((FREE,) * 8, None), ("freefree", (0,) * 24), ((FREE,) * 8, "0" * 24),
) + tuple(page((), (thing,)) for thing in NO_NUMBERS + (-1, 100, GREAT))


class TestPages(unittest.TestCase):
    """Point 2."""

    def test_slots_at_their_bounds_are_written(self):
        for slot in GOOD_SLOTS:
            for at in (0, 7):
                sheet = page((FREE,) * at + (slot,), range(24))
                disk = Disk(2)
                disk.write(1, sheet)
                self.assertEqual(disk.page(1), sheet)

    def test_cells_at_their_bounds_are_written(self):
        sheet = page((), (0, 99) * 12)
        disk = Disk(2)
        disk.write(0, sheet)
        self.assertEqual(disk.page(0), sheet)

    def test_slots_beyond_their_bounds_are_refused(self):
        disk = Disk(2)
        for slot in BAD_SLOTS:
            for at in (0, 7):
                with self.assertRaises(BadPage, msg=repr(slot)):
                    disk.write(0, page((FREE,) * at + (slot,)))
        self.assertEqual(pages_of(disk), [page(), page()])
        self.assertEqual(disk.writes(), 0)

    def test_what_is_no_page_is_refused(self):
        disk = Disk(2)
        for sheet in BAD_PAGES:
            with self.assertRaises(BadPage, msg=repr(sheet)):
                disk.write(0, sheet)
        self.assertEqual(pages_of(disk), [page(), page()])

    def test_a_page_alone_may_have_slots_that_judge_would_not_let_by(self):
        sheet = page((("row", 0, 0, 5, (11, 7)), ("part", 0, 0, 5, (0, 0))))
        disk = Disk(2)
        disk.write(0, sheet)
        self.assertEqual(disk.page(0), sheet)


class TestDisk(unittest.TestCase):
    """Point 3."""

    def test_how_many_pages(self):
        for many in (2, 3, 11, 12):
            disk = Disk(many)
            self.assertEqual(disk.pages(), many)
            self.assertEqual(pages_of(disk), [((("free", 0),) * 8, (0,) * 24)] * many)
            self.assertEqual(disk.writes(), 0)
        for many in (-1, 0, 1, 13, GREAT, -GREAT) + NO_NUMBERS:
            with self.assertRaises(BadDisk):
                Disk(many)

    def test_numbers_of_pages(self):
        disk = Disk(3)
        for number in (-1, 3, GREAT, -GREAT) + NO_NUMBERS:
            with self.assertRaises(NoPage):
                disk.page(number)
            with self.assertRaises(NoPage):
                disk.write(number, page())
            with self.assertRaises(NoPage):
                disk.write(number, None)
        self.assertEqual(disk.writes(), 0)

    def test_write_lays_another_page(self):
        disk = Disk(2)
        sheets = [page((("row", 3, 0, 2, None),), (1, 2)), page((FREE, ("free", 100)), (9,))]
        self.assertIsNone(disk.write(1, sheets[0]))
        self.assertEqual(pages_of(disk), [page(), sheets[0]])
        disk.write(0, sheets[1])
        disk.write(0, sheets[1])
        self.assertEqual(pages_of(disk), [sheets[1], sheets[0]])
        self.assertEqual(disk.writes(), 3)

    def test_counts(self):
        disk = Disk(2)
        for count in (-1, 10 ** 6 + 1, GREAT) + NO_NUMBERS:
            with self.assertRaises(BadCount):
                disk.arm(count)
        disk.write(0, page())
        self.assertIsNone(disk.arm(10 ** 6))
        self.assertIsNone(disk.again())

    def test_so_many_writes_are_done(self):
        for count in (0, 1, 2, 5):
            disk = Disk(2)
            disk.write(0, page((), (50,)))
            disk.arm(count)
            for done in range(count):
                disk.write(1, page((), (done,)))
            kept = pages_of(disk)
            with self.assertRaises(Stopped):
                disk.write(1, page((), (99,)))
            self.assertEqual(disk.writes(), count + 1)
            self.assertEqual(disk.pages(), 2)
            disk.again()
            self.assertEqual(pages_of(disk), kept)

    def test_a_stopped_disk_refuses_ahead_of_all_else(self):
        disk = Disk(2)
        disk.arm(0)
        self.assertEqual(disk.page(0), page())
        with self.assertRaises(Stopped):
            disk.write(0, page())
        for number in (0, 1, 2, -1, None, True):
            with self.assertRaises(Stopped):
                disk.page(number)
            with self.assertRaises(Stopped):
                disk.write(number, page())
            with self.assertRaises(Stopped):
                disk.write(number, None)
        self.assertEqual((disk.pages(), disk.writes()), (2, 0))

    def test_what_is_refused_does_not_count_as_a_write(self):
        disk = Disk(2)
        disk.arm(0)
        with self.assertRaises(BadPage):
            disk.write(0, None)
        with self.assertRaises(NoPage):
            disk.write(2, page())
        with self.assertRaises(BadCount):
            disk.arm(-1)
        self.assertEqual(disk.page(1), page())
        disk.arm(1)
        with self.assertRaises(BadPage):
            disk.write(0, None)
        disk.write(0, page((), (1,)))
        with self.assertRaises(Stopped):
            disk.write(0, page((), (2,)))

    def test_again_lets_it_go_on_without_an_end(self):
        disk = Disk(2)
        disk.arm(0)
        with self.assertRaises(Stopped):
            disk.write(0, page())
        disk.again()
        for value in range(50):
            disk.write(0, page((), (value,)))
        self.assertEqual(disk.page(0), page((), (49,)))
        self.assertEqual(disk.writes(), 50)
        disk.arm(1)
        disk.again()
        for _ in range(5):
            disk.write(1, page())

    def test_arm_does_not_let_a_stopped_disk_go_on(self):
        disk = Disk(2)
        disk.arm(0)
        with self.assertRaises(Stopped):
            disk.write(0, page())
        disk.arm(3)
        with self.assertRaises(BadCount):
            disk.arm(None)
        with self.assertRaises(Stopped):
            disk.page(0)
        with self.assertRaises(Stopped):
            disk.write(0, page())
        disk.again()
        for _ in range(9):
            disk.write(0, page())

    def test_arm_again_counts_anew(self):
        disk = Disk(2)
        disk.arm(1)
        disk.write(0, page())
        disk.arm(2)
        disk.write(0, page())
        disk.write(0, page())
        with self.assertRaises(Stopped):
            disk.write(0, page())
