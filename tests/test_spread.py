import random
import unittest

from slotpages.disk import Disk
from slotpages.errors import Full
from slotpages.judging import judge, lost
from slotpages.shelf import Shelf
from slotpages.spread import apart, fewest, held
from support import disk_of, fewest_to_put, mended, page, pages_of, room_due, rows_of, stopped_pages, wild_pages
from test_disk import FREE
from test_judging import part, row

SPENT = ("free", 100)
SPENT_PAGE = page([SPENT] * 8)


class TestFewest(unittest.TestCase):
    """Point 9, fewest."""

    def check(self, pages):
        """Compare all counts with an account by all choices of pages, and some with what put does."""
        room, slots = room_due(pages)
        account = mended(pages)
        for many in range(301):
            due = fewest_to_put(account, many)
            self.assertEqual(due is None, many > room or not slots)
            if due is None:
                with self.assertRaises(Full):
                    fewest(pages, many)
            else:
                self.assertEqual(fewest(pages, many), due)
        for many in {0, 1, 24, 25, room // 2, room, room + 1}:
            shelf = Shelf(disk_of(pages))
            if slots and many <= room:
                self.assertEqual(shelf.parts(shelf.put([1] * many)), fewest(pages, many))
            else:
                with self.assertRaises(Full):
                    shelf.put([1] * many)

    def test_fresh_pages(self):
        for count in (2, 3, 12):
            self.check([page()] * count)
        for many, slots in ((0, 1), (1, 1), (24, 1), (25, 2), (48, 2), (49, 3), (287, 12), (288, 12)):
            self.assertEqual(fewest([page()] * 12, many), slots)
        for many in (289, 300):
            with self.assertRaises(Full):
                fewest([page()] * 12, many)

    def test_one_page_and_none(self):
        self.assertEqual([fewest([page()], many) for many in (0, 24)], [1, 1])
        for pages, many in (([page()], 25), ([], 0), ([], 1), ([], 300)):
            with self.assertRaises(Full):
                fewest(pages, many)

    def test_pages_that_are_partly_full(self):
        pages = [page((row(20),)), page((row(14),)), page((row(22),)), page((row(4),)), page((row(19),))]
        self.check(pages)
        for many, slots in ((20, 1), (21, 2), (30, 2), (31, 3), (35, 3), (36, 4), (39, 4), (40, 5), (41, 5)):
            self.assertEqual(fewest(pages, many), slots)
        with self.assertRaises(Full):
            fewest(pages, 42)

    def test_pages_that_may_not_be_used_have_no_room(self):
        pages = [page([row(0)] * 8), page([SPENT] * 7 + [("free", 99)]), SPENT_PAGE]
        self.check(pages)
        self.assertEqual(fewest(pages, 24), 1)
        with self.assertRaises(Full):
            fewest(pages, 25)

    def test_no_page_may_be_used(self):
        pages = [SPENT_PAGE, page([row(1)] + [row(0)] * 7)]
        self.check(pages)
        for many in (0, 1, 300):
            with self.assertRaises(Full):
                fewest(pages, many)

    def test_full_pages_take_a_row_of_no_values(self):
        pages = [page((row(24),)), page((row(24),))]
        self.check(pages)
        self.assertEqual(fewest(pages, 0), 1)
        with self.assertRaises(Full):
            fewest(pages, 1)

    def test_free_cells_that_lie_apart_are_room(self):
        self.check([page([row(1, begin=at) for at in (1, 4, 8, 13, 19, 23)]), SPENT_PAGE])

    def test_lost_parts_are_room_as_they_are_to_a_shelf(self):
        pages = [page([part(10, (1, 2))] + [row(2, begin=10 + 2 * at) for at in range(7)]),
                 page([SPENT] * 2 + [part(24, turn=99)] + [SPENT] * 5)]
        self.assertEqual(lost(pages), [(0, 0), (1, 2)])
        self.check(pages)
        self.assertEqual([fewest(pages, many) for many in (0, 24, 25, 34)], [1, 1, 2, 2])
        with self.assertRaises(Full):
            fewest(pages, 35)

    def test_pages_that_shelves_left(self):
        lossy = 0
        for seed in range(60):
            chance = random.Random(seed)
            pages = stopped_pages(chance, chance.choice((2, 3, 4)))
            lossy += bool(lost(pages))
            self.check(pages)
        self.assertGreater(lossy, 10)

    def test_the_list_is_neither_changed_nor_kept(self):
        pages = [page((part(20),)), page((row(3),))]
        kept = list(pages)
        self.assertEqual([fewest(pages, 30), fewest(pages, 30)], [2, 2])
        self.assertEqual(pages, kept)
        pages[0] = SPENT_PAGE
        with self.assertRaises(Full):
            fewest(pages, 30)
        self.assertEqual(pages, [SPENT_PAGE, kept[1]])


class TestHeld(unittest.TestCase):
    """Point 9, held."""

    def test_none(self):
        for pages in ([], [page()], [page((FREE, part(3)))] * 2):
            self.assertEqual(held(pages), [])

    def test_all_rows_rising_with_their_values(self):
        pages = [page((FREE, row(2, (2, 1), turn=9), part(1, begin=20), row(0, begin=24)), range(24)),
                 page([FREE] * 7 + [row(3, (2, 0), begin=5, turn=99)], range(24)),
                 page((part(1, begin=3), part(4, (0, 2), begin=11), row(2, turn=1)), range(50, 74))]
        self.assertIsNone(judge(pages))
        self.assertEqual(held(pages), [((0, 1, 9), [0, 1, 61, 62, 63, 64, 20]), ((0, 3, 0), []),
                                       ((1, 7, 99), [5, 6, 7, 53]), ((2, 2, 1), [50, 51])])

    def test_lost_parts_are_no_rows_and_of_none(self):
        pages = [page((row(1), part(2, (1, 0), begin=1)), range(24)), page((part(1), row(1, begin=1)), range(24))]
        self.assertEqual(held(pages), [((0, 0, 0), [0]), ((1, 1, 0), [1])])

    def test_wild_pages(self):
        for seed in range(200):
            chance = random.Random(seed)
            pages = wild_pages(chance, chance.randrange(13))
            self.assertIsNone(judge(pages))
            kept = list(pages)
            self.assertEqual(held(pages), sorted(rows_of(pages).items()))
            self.assertEqual(pages, kept)

    def test_what_shelves_have(self):
        for seed in range(30):
            pages = stopped_pages(random.Random(seed), 3)
            shelf = Shelf(disk_of(pages))
            self.assertEqual(held(pages), [(name, shelf.get(name)) for name in shelf.names()])

    def test_what_is_told_may_be_changed(self):
        pages = [page((row(2),), (1, 2))]
        told = held(pages)
        told[0][1].append(7)
        told.append(None)
        self.assertEqual(held(pages), [((0, 0, 0), [1, 2])])


class TestApart(unittest.TestCase):
    """Point 9, apart."""

    def check(self, one, other, name):
        for pages, others in ((one, other), (other, one)):
            kept = list(pages), list(others)
            self.assertEqual(apart(pages, others), name)
            self.assertEqual(apart(pages, others), name)
            self.assertEqual((pages, others), kept)

    def test_like_ones(self):
        pages = [page((row(2, (1, 0)),), (1, 2)), page((part(3),))]
        self.check([], [], None)
        self.check(pages, pages, None)
        self.check(pages, list(pages), None)

    def test_other_values(self):
        one = [page((row(2), row(2, begin=2)), (1, 2, 3, 4))]
        for cells, name in (((1, 2, 3, 5), (0, 1, 0)), ((9, 2, 3, 5), (0, 0, 0)), ((2, 1, 3, 4), (0, 0, 0)),
                            ((1, 2, 3, 4, 5), None)):
            self.check(one, [page((row(2), row(2, begin=2)), cells)], name)
        self.check(one, [page((row(2), row(1, begin=2)), (1, 2, 3, 4))], (0, 1, 0))
        self.check(one, [page((row(0), row(2, begin=2)), (1, 2, 3, 4))], (0, 0, 0))

    def test_names_that_one_alone_has(self):
        one = [page((row(1), FREE, row(1, begin=1)), (1, 2)), page()]
        self.check(one, [page(), page()], (0, 0, 0))
        self.check(one, [page((row(1),), (1,)), page()], (0, 2, 0))
        self.check(one, [page((row(1), row(0), row(1, begin=1)), (1, 2)), page()], (0, 1, 0))
        self.check(one, [page((row(1), FREE, row(1, begin=1)), (1, 2)), page((row(0),))], (1, 0, 0))
        self.check([page((row(0),))], [page()], (0, 0, 0))
        self.check([page((row(0),))], [], (0, 0, 0))

    def test_other_turns_are_other_names(self):
        self.check([page((row(1, turn=5),))], [page((row(1, turn=6),))], (0, 0, 5))
        self.check([page((row(1, turn=10),))], [page((row(1, turn=9),))], (0, 0, 9))
        self.check([page((row(1, turn=5), row(1, begin=1)))], [page((row(1, turn=5), row(1, begin=1, turn=1)))],
                   (0, 1, 0))

    def test_the_least_name_is_told(self):
        one = [page((FREE, row(1), row(1, begin=1)), (1, 2)), page((row(1),), (3,))]
        self.check(one, [page((FREE, row(1), row(1, begin=1)), (1, 5)), page((row(1),), (6,))], (0, 2, 0))
        self.check(one, [page((FREE, row(1), row(1, begin=1)), (1, 5)), page((row(1), row(0)), (6,))], (0, 2, 0))
        self.check(one, [page((FREE, row(1), FREE, row(0)), (1, 5)), page((row(1),), (3,))], (0, 2, 0))
        self.check(one, [page((row(1), row(1, begin=1)), (1, 1)), page()], (0, 0, 0))

    def test_more_and_fewer_pages_that_hold_the_same(self):
        pages = [page((row(2),), (1, 2))]
        self.check(pages, pages + [page()] * 11, None)
        self.check([], [page(), page((part(5),))], None)
        self.check(pages, pages + [page((row(0),))], (1, 0, 0))

    def test_lost_room_alone(self):
        self.check([page((row(2),), (1, 2)), page()],
                   [page((row(2), part(9, (1, 1), begin=5, turn=3)), (1, 2, 9)), page((FREE, part(3, begin=9)))], None)

    def test_how_rows_are_parted_alone(self):
        one = [page((row(4, begin=3),), (0, 0, 0, 1, 2, 3, 4)), page()]
        self.check(one, [page((row(3, (1, 6)),), (1, 2, 3)), page([FREE] * 6 + [part(1, begin=23)], [4] * 24)], None)
        self.check(one, [page((row(0, (1, 6)),)), page([FREE] * 6 + [part(4)], (1, 2, 3, 4))], None)
        self.check(one, [page((row(0, (1, 6)),)), page([FREE] * 6 + [part(4)], (4, 3, 2, 1))], (0, 0, 0))

    def test_free_slots_and_cells_alone(self):
        self.check([page((row(1), ("free", 4), SPENT), (7, 8, 9))], [page((row(1),), (7, 1))], None)

    def test_wild_pages(self):
        for seed in range(200):
            chance = random.Random(seed)
            one = wild_pages(chance, chance.randrange(4))
            other = list(one)
            for _ in range(chance.randrange(3)):
                if other:
                    slots, cells = other[0]
                    at = chance.randrange(24)
                    other[0] = slots, cells[:at] + (chance.randrange(100),) + cells[at + 1:]
                else:
                    other = wild_pages(chance, 2)
            rows, others = rows_of(one), rows_of(other)
            names = [name for name in rows.keys() | others.keys() if rows.get(name) != others.get(name)]
            self.check(one, other, min(names, default=None))

    def test_a_deed_on_a_disk(self):
        disk = Disk(3)
        shelf = Shelf(disk)
        first, second = sorted([shelf.put([1] * 30), shelf.put([2])])
        kept = pages_of(disk)
        values = shelf.get(second)
        shelf.change(second, [9])
        self.check(kept, pages_of(disk), second)
        shelf.drop(first)
        self.check(kept, pages_of(disk), first)
        self.assertEqual(dict(held(kept))[second], values)
