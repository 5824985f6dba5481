import unittest

from slotpages.judging import judge, lost
from support import page
from test_disk import BAD_PAGES, BAD_SLOTS, FREE, GOOD_SLOTS


def row(size, after=None, begin=0, turn=0):
    return "row", turn, begin, size, after


def part(size, after=None, begin=0, turn=0):
    return "part", turn, begin, size, after


class TestJudge(unittest.TestCase):
    """Point 4, judge."""

    def test_pages_that_can_be(self):
        self.assertIsNone(judge([]))
        self.assertIsNone(judge([page()]))
        self.assertIsNone(judge([page()] * 12))
        self.assertIsNone(judge([page((row(3, (1, 0)), row(0), ("free", 100))), page((part(24),))]))

    def test_slots_that_are_none(self):
        for slot in BAD_SLOTS:
            for at in (0, 7):
                sheet = page((FREE,) * at + (slot,))
                self.assertEqual(judge([page(), page(), sheet, sheet]), (2, at), slot)

    def test_slots_at_their_bounds(self):
        for slot in GOOD_SLOTS:
            if slot[0] == "free" or slot[4] is None:
                self.assertIsNone(judge([page((FREE, slot))]), slot)

    def test_what_is_no_tuple_of_eight_things_and_24_cells(self):
        for sheet in BAD_PAGES:
            self.assertEqual(judge([sheet]), (0, -1), repr(sheet))
            self.assertEqual(judge([page(), sheet, sheet]), (1, -1), repr(sheet))

    def test_cells_come_ahead_of_slots(self):
        self.assertEqual(judge([page((None,), (100,))]), (0, -1))
        self.assertEqual(judge([((None,) * 8, (0,) * 24)]), (0, 0))

    def test_the_first_is_told(self):
        bad = page((FREE, None, None))
        self.assertEqual(judge([bad, None]), (0, 1))
        self.assertEqual(judge([page(), None, bad]), (1, -1))
        self.assertEqual(judge([page((row(5), FREE, row(1, begin=4), None))]), (0, 2))
        self.assertEqual(judge([page((row(5), row(1, (0, 0), begin=5), row(1)))]), (0, 1))

    def test_cells_that_are_held_twice(self):
        for first, second, told in (
                ((0, 5), (5, 5), None), ((5, 5), (0, 5), None), ((0, 5), (4, 1), (0, 4)), ((4, 1), (0, 5), (0, 4)),
                ((0, 24), (23, 1), (0, 4)), ((3, 9), (5, 2), (0, 4)), ((5, 2), (3, 9), (0, 4)),
                ((1, 1), (1, 1), (0, 4)), ((0, 24), (12, 0), None), ((12, 0), (0, 24), None),
                ((3, 0), (3, 0), None), ((3, 2), (3, 0), None)):
            slots = (FREE, ("row", 0) + first + (None,), FREE, FREE, ("row", 0) + second + (None,))
            self.assertEqual(judge([page(slots)]), told, (first, second))
        self.assertEqual(judge([page((part(5), part(5, begin=3)))]), (0, 1))
        self.assertIsNone(judge([page((row(24),)), page((row(24),))]))
        self.assertEqual(judge([page((row(2), row(2, begin=4), row(3, begin=3)))]), (0, 2))

    def test_a_slot_that_leads_to_no_part(self):
        for target in (FREE, ("free", 100), row(0), row(2)):
            self.assertEqual(judge([page((FREE, row(1, (1, 3)))), page((FREE,) * 3 + (target,))]), (0, 1))
            self.assertEqual(judge([page((FREE,) * 3 + (target,)), page((FREE, row(1, (0, 3))))]), (1, 1))
            self.assertEqual(judge([page((FREE, part(1, (1, 3)))), page((FREE,) * 3 + (target,))]), (0, 1))

    def test_a_slot_that_leads_to_no_page(self):
        sheets = [page((part(1),)), page((row(1, (2, 0)),))]
        self.assertEqual(judge(sheets), (1, 0))
        self.assertIsNone(judge(sheets + [page((part(1),))]))
        self.assertEqual(judge([page((row(1, (11, 7)),))] + [page()] * 10), (0, 0))

    def test_a_slot_that_leads_to_what_is_not_such(self):
        for wrong in (None, ("part",), ("part", 0, 0, 0, None), ("part", 0, 0, 1), ("part", 0, 0, 1, (12, 0)),
                      ("part", 100, 0, 1, None), ("part", 0, 24, 1, None), ("part", True, 0, 1, None)):
            self.assertEqual(judge([page((row(1, (1, 2)),)), page((FREE, FREE, wrong))]), (0, 0), wrong)
            self.assertEqual(judge([page((FREE, FREE, wrong)), page((row(1, (0, 2)),))]), (0, 2), wrong)
            self.assertEqual(judge([page((FREE, row(1, (0, 2)), wrong))]), (0, 1), wrong)
        for wrong in BAD_PAGES:
            self.assertEqual(judge([page((row(1, (1, 0)),)), wrong]), (0, 0), wrong)
            self.assertEqual(judge([wrong, page((row(1, (0, 0)),))]), (0, -1), wrong)

    def test_a_part_is_not_wrong_for_what_stands_beside_it(self):
        self.assertEqual(judge([page((row(1, (1, 0)),)), page((part(1), None))]), (1, 1))

    def test_a_part_that_can_not_be_is_told_behind_the_slot_that_leads_to_it(self):
        self.assertEqual(judge([page((row(1, (1, 1)),)), page((row(5), part(5, begin=4)))]), (1, 1))
        self.assertEqual(judge([page((row(1, (1, 1)),)), page((row(5), part(5, (1, 0), begin=5)))]), (1, 1))

    def test_two_slots_that_lead_to_one_part(self):
        self.assertEqual(judge([page((row(1, (1, 0)), row(1, (1, 0), begin=1))), page((part(1),))]), (0, 1))
        self.assertEqual(judge([page((row(1, (1, 0)),)), page((part(1), part(1, (1, 0), begin=1)))]), (1, 1))
        self.assertEqual(judge([page((part(1), FREE, part(1, (0, 0), begin=1))), page((row(1, (0, 0)),))]), (1, 0))

    def test_parts_may_lead_in_a_ring_or_to_themselves(self):
        self.assertIsNone(judge([page((part(1, (0, 0)),))]))
        self.assertIsNone(judge([page((part(1, (1, 3)),)), page((FREE, FREE, FREE, part(2, (0, 0))))]))

    def test_the_list_is_not_changed(self):
        sheets = [page((row(1, (1, 0)),)), page((part(1), part(2, begin=1)))]
        kept = list(sheets)
        judge(sheets)
        lost(sheets).append(None)
        self.assertEqual(sheets, kept)
        self.assertEqual(lost(sheets), [(1, 1)])


class TestLost(unittest.TestCase):
    """Point 4, lost."""

    def test_none(self):
        self.assertEqual(lost([]), [])
        self.assertEqual(lost([page((row(1), row(0))), page()]), [])
        self.assertEqual(lost([page((part(1), row(1, (1, 1), begin=1))), page((FREE, part(1, (0, 0))))]), [])

    def test_parts_to_which_none_leads(self):
        self.assertEqual(lost([page((FREE, part(1), row(1, begin=1))), page((part(1),))]), [(0, 1), (1, 0)])

    def test_chains(self):
        sheets = [page((part(1), row(1, (1, 1), begin=1))), page((part(1, (0, 0)), part(1, begin=1)))]
        self.assertEqual(lost(sheets), [(0, 0), (1, 0)])
        sheets = [page((part(1, (1, 0)), part(1, (0, 0), begin=1))), page((part(1),))]
        self.assertEqual(lost(sheets), [(0, 0), (0, 1), (1, 0)])

    def test_rings(self):
        self.assertEqual(lost([page((row(2), part(1, (0, 1), begin=2)))]), [(0, 1)])
        sheets = [page((part(1, (2, 1)), row(1, (2, 0), begin=1))), page((part(1, (0, 0)),)),
                  page((part(1), part(1, (1, 0), begin=1)))]
        self.assertIsNone(judge(sheets))
        self.assertEqual(lost(sheets), [(0, 0), (1, 0), (2, 1)])
