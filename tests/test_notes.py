import random
import unittest

from slotpages.disk import Disk
from slotpages.errors import BadPage, BadText
from slotpages.judging import judge
from slotpages.notes import read, written
from slotpages.shelf import Shelf
from support import page, pages_of, wild_pages
from test_disk import BAD_PAGES, BAD_SLOTS, FREE, GOOD_SLOTS, GREAT

CELLS = "cells" + " 0" * 24
FRESH = "\n".join(["free 0"] * 8 + [CELLS])

GOOD_ROWS = (
    ("free 0", ("free", 0)), ("free 9", ("free", 9)), ("free 10", ("free", 10)), ("free 99", ("free", 99)),
    ("free 100", ("free", 100)), ("row 0 0 0 -", ("row", 0, 0, 0, None)), ("row 5 24 0 -", ("row", 5, 24, 0, None)),
    ("row 99 0 24 11.7", ("row", 99, 0, 24, (11, 7))), ("row 10 3 20 0.0", ("row", 10, 3, 20, (0, 0))),
    ("row 7 1 2 2.7", ("row", 7, 1, 2, (2, 7))), ("part 0 0 1 -", ("part", 0, 0, 1, None)),
    ("part 99 23 1 10.0", ("part", 99, 23, 1, (10, 0))),
)

BAD_NUMBERS = ("", "00", "01", "007", "1000", "0000", "-1", "+1", "-0", "1.", ".1", "1.0", "1,2", "a", "1a", "0x1",
               "1e1", "1_0", "-", "None", "True", "free", "1" * 20)

# None of these can stand where a slot is due.
BAD_ROWS = (
    "", " ", "-", "0", "free", "row", "part", "cells", CELLS, "fre 0", "frees 0", "Free 0", "FREE 0", "free0",
    "free,0", "free 0 0", "free 0 -", "free 0 0 0 -", "free 101", "free 999", "free  0", " free 0", "free 0 ",
    "0 free", "free 0.0", "row 0", "row 0 0 0", "row 0 0 -", "row 0 0 0 - -", "row 0 0 0 0 -", "row 0 0 0 -1",
    "row 0 0 0 --", "row 0 0 0 None", "row 0 0 0 0", "row 0 0 0 2,7", "row 0 0 0 2.", "row 0 0 0 .7", "row 0 0 0 .",
    "row 0 0 0 2.7.1", "row 0 0 0 2..7", "row 0 0 0 2 7", "row 0 0 0 (2,7)", "row 0 0 0 -.-", "row 0 0 0 02.7",
    "row 0 0 0 2.07", "row 0 0 0 12.0", "row 0 0 0 0.8", "row 0 0 0 12.8", "row 0 0 0 -1.0", "row 0 0 0 0.-1",
    "row 0 0 0 1000.0", "row 0 0 0 2. 7", "row 100 0 0 -", "row 0 25 0 -", "row 0 0 25 -", "row 0 24 1 -",
    "row 0 23 2 -", "row 0 1 24 -", "row 0  0 0 -", " row 0 0 0 -", "row 0 0 0 - ", "row 0 0 0  -", "rows 0 0 0 -",
    "Row 0 0 0 -", "part 0 0 0 -", "part 0 24 0 -", "part 100 0 1 -", "part 0 24 1 -", "part 0 0 25 -",
    "part 0 0 1", "part 0 0 1 -.", "parts 0 0 1 -", "part 0 0 1 12.7", "part 0 0 1 11.8", "page 0", "lost 0 0 1 -",
) + tuple(row for number in BAD_NUMBERS for row in (
    f"free {number}", f"row {number} 0 0 -", f"row 0 {number} 0 -", f"part 0 0 {number} -", f"row 0 0 0 {number}.0",
    f"part 0 0 1 0.{number}"))

# None of these can stand where cells are due.
BAD_CELLS = (
    "", " ", "cells", "free 0", "row 0 0 0 -", "0" + " 0" * 23, "cell" + " 0" * 24, "Cells" + " 0" * 24,
    "cells" + " 0" * 23, "cells" + " 0" * 25, CELLS + " ", " " + CELLS, "cells " + CELLS[5:],
    "cells" + " 0" * 23 + "  0", "cells" + ",0" * 24, "cells 100" + " 0" * 23, "cells" + " 0" * 23 + " 100",
    "cells -" + " 0" * 23, CELLS + " -", "cells 0" + " 0" * 22 + " cells",
) + tuple("cells" + " 0" * at + " " + number + " 0" * (23 - at) for number in BAD_NUMBERS for at in (0, 11, 23))


class TestWritten(unittest.TestCase):
    """Point 11, written."""

    def test_no_pages(self):
        self.assertEqual(written([]), "")

    def test_fresh_pages(self):
        self.assertEqual(written([page()]), FRESH)
        self.assertEqual(written([page()] * 3), "\n".join([FRESH] * 3))

    def test_each_kind_of_slot_and_cells(self):
        slots = ("free", 100), ("row", 99, 0, 3, (2, 7)), ("row", 0, 24, 0, None), ("part", 12, 9, 10, (11, 0)), \
                ("part", 7, 23, 1, None), ("free", 0)
        self.assertEqual(written([page(slots, range(76, 100)), page()]),
                         "free 100\nrow 99 0 3 2.7\nrow 0 24 0 -\npart 12 9 10 11.0\npart 7 23 1 -\nfree 0\nfree 0\n"
                         "free 0\ncells 76 77 78 79 80 81 82 83 84 85 86 87 88 89 90 91 92 93 94 95 96 97 98 99\n"
                         + FRESH)

    def test_slots_at_their_bounds(self):
        for text, slot in GOOD_ROWS:
            rows = written([page((FREE, slot))]).split("\n")
            self.assertEqual(rows, ["free 0", text] + ["free 0"] * 6 + [CELLS])

    def test_pages_that_judge_does_not_let_by_are_written_all_the_same(self):
        sheets = [page((("row", 0, 0, 5, (11, 7)), ("part", 0, 0, 5, (0, 0))))]
        self.assertIsNotNone(judge(sheets))
        self.assertEqual(written(sheets).split("\n")[:2], ["row 0 0 5 11.7", "part 0 0 5 0.0"])
        self.assertEqual(read(written(sheets)), sheets)

    def test_what_is_no_page_is_refused(self):
        for sheet in BAD_PAGES + tuple(page((FREE,) * at + (slot,)) for slot in BAD_SLOTS for at in (0, 7)):
            for sheets in ([sheet], [page(), sheet], [sheet, page()]):
                kept = list(sheets)
                with self.assertRaises(BadPage, msg=repr(sheet)):
                    written(sheets)
                self.assertEqual(sheets, kept)

    def test_the_list_is_not_changed(self):
        sheets = [page((("row", 0, 0, 5, None),), range(5)), page()]
        kept = list(sheets)
        self.assertEqual(written(sheets), written(sheets))
        self.assertEqual(sheets, kept)


class TestRead(unittest.TestCase):
    """Point 11, read."""

    def refused(self, rows, line):
        with self.assertRaises(BadText, msg=repr(rows)) as told:
            read("\n".join(rows))
        self.assertEqual(told.exception.line, line, rows)

    def test_no_pages(self):
        self.assertEqual(read(""), [])

    def test_fresh_pages(self):
        for many in (1, 2, 12):
            self.assertEqual(read("\n".join([FRESH] * many)), [page()] * many)

    def test_slots_at_their_bounds(self):
        for text, slot in GOOD_ROWS:
            for at in (0, 7):
                rows = FRESH.split("\n")
                rows[at] = text
                self.assertEqual(read("\n".join(rows)), [page((FREE,) * at + (slot,))])

    def test_cells(self):
        cells = tuple(range(76, 100))
        self.assertEqual(read(FRESH.replace(CELLS, "cells " + " ".join(map(str, cells)))), [page((), cells)])

    def test_kinds(self):
        told = read(written([page((("row", 1, 2, 3, (4, 5)),))]))
        self.assertEqual([type(thing) for thing in (told, told[0], *told[0], told[0][0][0], told[0][0][0][4])],
                         [list] + [tuple] * 5)

    def test_rows_that_are_no_slots(self):
        for bad in BAD_ROWS:
            for line in (0, 7, 9, 16):
                rows = (FRESH + "\n" + FRESH).split("\n")
                rows[line] = bad
                self.refused(rows, line)

    def test_rows_that_are_no_cells(self):
        for bad in BAD_CELLS:
            for line in (8, 17):
                rows = (FRESH + "\n" + FRESH).split("\n")
                rows[line] = bad
                self.refused(rows, line)

    def test_the_first_row_that_can_not_be_is_told(self):
        rows = (FRESH + "\n" + FRESH).split("\n")
        for line in reversed(range(18)):
            rows[line] = "no"
            self.refused(rows, line)

    def test_more_must_come(self):
        rows = (FRESH + "\n" + FRESH + "\n" + FRESH).split("\n")
        for count in range(1, 27):
            if count in (9, 18):
                self.assertEqual(len(read("\n".join(rows[:count]))), count // 9)
            else:
                self.refused(rows[:count], count)

    def test_a_row_that_can_not_be_comes_ahead_of_those_that_must_come(self):
        self.refused(["free 0", "no", "free 0"], 1)
        self.refused(["free 0", "free 0", "no"], 2)
        self.refused(["no"], 0)

    def test_a_last_row_that_can_not_be_is_told_from_one_that_is_missed(self):
        self.refused(["free 39", "xx"], 1)
        self.refused(["free 39", "free 39"], 2)
        self.refused(["free 39"], 1)
        self.refused(["xx"], 0)
        cells = "cells 87 97 " + "0 " * 18 + "19^ 67 95 41"
        self.refused(["free 0"] * 8 + [cells], 8)
        self.refused(["free 0"] * 8, 8)
        self.refused(["free 0"] * 7 + ["xx"], 7)
        self.assertEqual(len(read("\n".join(["free 0"] * 8 + [cells.replace("^", "")]))), 1)

    def test_a_row_left_out(self):
        for at in range(8):
            rows = ["free 1"] * 8 + [CELLS] + FRESH.split("\n")
            del rows[at]
            self.refused(rows, 7)
        rows = FRESH.split("\n")[:8] + FRESH.split("\n")
        self.refused(rows, 8)

    def test_a_row_too_much(self):
        self.refused(["free 0"] * 9 + [CELLS], 8)
        self.refused(FRESH.split("\n") + [CELLS], 9)
        self.refused(FRESH.split("\n") + ["free 0"], 10)
        self.refused(FRESH.split("\n") + ["free 0", CELLS], 10)

    def test_rows_that_change_their_places(self):
        rows = FRESH.split("\n")
        for at in range(8):
            self.refused(rows[:at] + [CELLS] + ["free 0"] * (8 - at), at)

    def test_line_ends_at_both_ends_and_empty_rows(self):
        rows = FRESH.split("\n")
        self.refused(rows + [""], 9)
        self.refused(rows + ["", ""], 9)
        self.refused([""] + rows, 0)
        self.refused(rows + [""] + rows, 9)
        self.refused(rows[:4] + [""] + rows[4:], 4)
        self.refused(rows[:4] + [""], 4)
        self.refused(["", ""], 0)

    def test_blanks_at_ends_and_doubled_and_other_signs(self):
        rows = FRESH.split("\n")
        for at, row in enumerate(rows):
            for bad in (row + " ", " " + row, row.replace(" ", "  ", 1), row.replace(" ", "", 1), row.upper(),
                        row + "-", row + ".", "~" + row, row.replace("0", "O", 1), row + "0", row[:-1]):
                self.refused(rows[:at] + [bad] + rows[at + 1:], at)

    def test_any_sign_beside(self):
        text = written([page((("row", 1, 2, 13, (4, 5)), ("part", 20, 0, 1, None)), range(30, 54))])
        for at in range(len(text)):
            for sign in "x-":
                if text[at] != sign:
                    with self.assertRaises(BadText) as told:
                        read(text[:at] + sign + text[at + 1:])
                    line = text[:at].count("\n")
                    self.assertEqual(told.exception.line, line)


class TestBoth(unittest.TestCase):
    """Point 11: what is written is read to the same."""

    def test_good_slots(self):
        for slot in GOOD_SLOTS:
            for at in (0, 7):
                sheets = [page((FREE,) * at + (slot,), (0, 99) * 12), page()]
                self.assertEqual(read(written(sheets)), sheets)

    def test_wild_pages(self):
        for seed in range(200):
            chance = random.Random(seed)
            sheets = wild_pages(chance, chance.randrange(13))
            text = written(sheets)
            self.assertEqual(read(text), sheets)
            self.assertEqual(written(read(text)), text)

    def test_what_is_read_may_be_changed(self):
        read(FRESH).clear()
        self.assertEqual(read(FRESH), [page()])

    def test_pages_of_a_shelf(self):
        disk = Disk(12)
        shelf = Shelf(disk)
        shelf.put([k % 100 for k in range(250)])
        shelf.drop(shelf.put([GREAT % 10] * 9))
        sheets = read(written(pages_of(disk)))
        self.assertEqual(sheets, pages_of(disk))
        other = Disk(12)
        for number, sheet in enumerate(sheets):
            other.write(number, sheet)
        self.assertEqual(Shelf(other).names(), shelf.names())
