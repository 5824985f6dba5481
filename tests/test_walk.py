import random
import unittest

from slotpages.disk import Disk
from slotpages.errors import Stopped
from slotpages.shelf import Shelf
from slotpages.walk import Walk
from support import disk_of, page, pages_of, rows_of, some_deed
from test_disk import FREE
from test_judging import part, row

SPENT = ("free", 100)


def shelf_with(*slots):
    """A shelf of one page of these slots first, of values 0, 1, 2 .., and one more; all other slots are spent."""
    return Shelf(disk_of([page(slots + (SPENT,) * (8 - len(slots)), range(24)), page([SPENT] * 8)]))


def all_steps(walk):
    told = []
    while (step := walk.step()) is not None:
        told.append(step)
    return told


class TestWalk(unittest.TestCase):
    """Point 8."""

    def test_an_empty_shelf(self):
        walk = Walk(Shelf(Disk(2)))
        for _ in range(3):
            self.assertIsNone(walk.step())

    def test_rows_are_told_by_page_and_slot_and_once_each(self):
        pages = [page((FREE, row(2, (1, 0), turn=9), FREE, row(1, begin=2)), range(24)),
                 page((part(3, (2, 7), begin=20), row(0, turn=4)), range(24)),
                 page((row(4), SPENT, FREE, row(1, begin=9, turn=99), FREE, FREE, FREE, part(2, begin=4)), range(24))]
        walk = Walk(Shelf(disk_of(pages)))
        self.assertEqual(walk.step(), ((0, 1, 9), [0, 1, 20, 21, 22, 4, 5]))
        self.assertEqual(walk.step(), ((0, 3, 0), [2]))
        self.assertEqual(walk.step(), ((1, 1, 4), []))
        self.assertEqual(walk.step(), ((2, 0, 0), [0, 1, 2, 3]))
        self.assertEqual(walk.step(), ((2, 3, 99), [9]))
        self.assertIsNone(walk.step())
        self.assertIsNone(walk.step())

    def test_a_row_in_the_first_slot_and_one_in_the_last(self):
        shelf = Shelf(disk_of([page((row(1),), (5,)), page([FREE] * 7 + [row(1)], (6,))]))
        self.assertEqual(all_steps(Walk(shelf)), [((0, 0, 0), [5]), ((1, 7, 0), [6])])

    def test_what_is_told_is_a_tuple_of_a_tuple_and_a_list(self):
        told = Walk(shelf_with(row(2))).step()
        self.assertEqual([type(thing) for thing in (told, *told)], [tuple, tuple, list])

    def test_rows_are_told_as_they_are_then(self):
        shelf = shelf_with(row(2), row(3, begin=2), row(1, begin=5))
        walk = Walk(shelf)
        shelf.change((0, 0, 0), [50])
        self.assertEqual(walk.step(), ((0, 0, 0), [50]))
        shelf.change((0, 1, 0), [60, 61])
        shelf.change((0, 2, 0), [])
        self.assertEqual(walk.step(), ((0, 1, 0), [60, 61]))
        shelf.change((0, 2, 0), [70] * 8)
        self.assertEqual(walk.step(), ((0, 2, 0), [70] * 8))

    def test_a_row_that_was_told_is_not_told_again_when_it_changes(self):
        shelf = shelf_with(row(2), row(3, begin=2))
        walk = Walk(shelf)
        walk.step()
        shelf.change((0, 0, 0), [1, 2, 3, 4])
        self.assertEqual(walk.step(), ((0, 1, 0), [2, 3, 4]))
        shelf.change((0, 0, 0), [])
        shelf.change((0, 1, 0), [9])
        self.assertIsNone(walk.step())

    def test_rows_that_are_dropped(self):
        shelf = shelf_with(row(1), row(1, begin=1), row(1, begin=2), row(1, begin=3), row(1, begin=4))
        walk = Walk(shelf)
        walk.step()
        walk.step()
        shelf.drop((0, 0, 0))
        shelf.drop((0, 2, 0))
        self.assertEqual(walk.step(), ((0, 3, 0), [3]))
        shelf.drop((0, 3, 0))
        self.assertEqual(walk.step(), ((0, 4, 0), [4]))
        shelf.drop((0, 4, 0))
        self.assertIsNone(walk.step())

    def test_a_row_that_is_put_behind_the_place_is_told(self):
        shelf = shelf_with(row(1), FREE, row(1, begin=1))
        walk = Walk(shelf)
        walk.step()
        self.assertEqual(shelf.put([77]), (0, 1, 0))
        self.assertEqual(all_steps(walk), [((0, 1, 0), [77]), ((0, 2, 0), [1])])

    def test_a_row_that_is_put_behind_the_last_one_is_told_where_none_was_not_told_yet(self):
        shelf = shelf_with(row(1), FREE)
        walk = Walk(shelf)
        walk.step()
        shelf.put([77])
        self.assertEqual(walk.step(), ((0, 1, 0), [77]))

    def test_a_row_that_is_put_ahead_of_the_place_is_not_told(self):
        shelf = shelf_with(FREE, row(1), row(1, begin=1))
        walk = Walk(shelf)
        walk.step()
        self.assertEqual(shelf.put([77]), (0, 0, 0))
        self.assertEqual(all_steps(walk), [((0, 2, 0), [1])])

    def test_a_row_that_is_put_in_the_slot_of_the_one_told_last_is_not_told(self):
        shelf = shelf_with(row(1), row(1, begin=1))
        walk = Walk(shelf)
        walk.step()
        shelf.drop((0, 0, 0))
        self.assertEqual(shelf.put([77]), (0, 0, 1))
        self.assertEqual(all_steps(walk), [((0, 1, 0), [1])])

    def test_a_row_that_is_put_in_a_slot_behind_has_its_own_name(self):
        shelf = shelf_with(row(1), row(1, begin=1))
        walk = Walk(shelf)
        walk.step()
        shelf.drop((0, 1, 0))
        shelf.put([77])
        self.assertEqual(all_steps(walk), [((0, 1, 1), [77])])

    def test_none_from_then_on(self):
        shelf = shelf_with(row(1), FREE)
        walk = Walk(shelf)
        walk.step()
        self.assertIsNone(walk.step())
        self.assertEqual(shelf.put([77]), (0, 1, 0))
        for _ in range(3):
            self.assertIsNone(walk.step())
        self.assertEqual(all_steps(Walk(shelf)), [((0, 0, 0), [0]), ((0, 1, 0), [77])])

    def test_none_from_then_on_where_there_was_no_row_at_all(self):
        shelf = Shelf(Disk(2))
        over, fresh = Walk(shelf), Walk(shelf)
        self.assertIsNone(over.step())
        name = shelf.put([1])
        self.assertIsNone(over.step())
        self.assertEqual(fresh.step(), (name, [1]))

    def test_rows_that_are_parted_and_come_home_meanwhile(self):
        pages = [page((row(24),), range(24)), page((row(4), row(5, begin=4)), range(24))]
        shelf = Shelf(disk_of(pages))
        walk = Walk(shelf)
        self.assertEqual(walk.step(), ((0, 0, 0), list(range(24))))
        shelf.change((0, 0, 0), [8] * 30)
        self.assertEqual(walk.step(), ((1, 0, 0), [0, 1, 2, 3]))
        shelf.change((0, 0, 0), [8])
        shelf.change((1, 0, 0), [6] * 30)
        self.assertEqual(walk.step(), ((1, 1, 0), [4, 5, 6, 7, 8]))
        self.assertIsNone(walk.step())
        shelf = Shelf(disk_of([page((row(2, (1, 0)), row(2, begin=2)), range(24)), page((part(5),), range(24))]))
        walk = Walk(shelf)
        walk.step()
        self.assertEqual(shelf.tidy(), [(0, 0, 0)])
        self.assertEqual(all_steps(walk), [((0, 1, 0), [2, 3])])

    def test_two_walks_of_one_shelf(self):
        shelf = shelf_with(row(1), row(1, begin=1), FREE)
        one, other = Walk(shelf), Walk(shelf)
        self.assertEqual(one.step(), ((0, 0, 0), [0]))
        self.assertEqual(one.step(), ((0, 1, 0), [1]))
        self.assertEqual(other.step(), ((0, 0, 0), [0]))
        self.assertIsNone(one.step())
        shelf.put([5])
        self.assertEqual(other.step(), ((0, 1, 0), [1]))
        self.assertEqual(other.step(), ((0, 2, 0), [5]))
        self.assertIsNone(one.step())
        self.assertIsNone(other.step())

    def test_what_is_told_may_be_changed(self):
        shelf = shelf_with(row(2), row(2, begin=2))
        walk = Walk(shelf)
        walk.step()[1].append("x")
        walk.step()[1].clear()
        self.assertEqual(all_steps(Walk(shelf)), [((0, 0, 0), [0, 1]), ((0, 1, 0), [2, 3])])

    def test_a_walk_writes_nothing(self):
        disk = disk_of([page((row(2, (1, 0)), row(2, begin=2))), page((part(2),))])
        shelf = Shelf(disk)
        kept, writes = pages_of(disk), disk.writes()
        disk.arm(0)
        self.assertEqual(len(all_steps(Walk(shelf))), 2)
        self.assertEqual((pages_of(disk), disk.writes()), (kept, writes))

    def test_stopped_while_the_disk_stands(self):
        disk = disk_of([page((row(1), row(1, begin=1))), page()])
        shelf = Shelf(disk)
        walk = Walk(shelf)
        walk.step()
        disk.arm(0)
        with self.assertRaises(Stopped):
            shelf.drop((0, 1, 0))
        for asked in (walk, Walk(shelf)):
            with self.assertRaises(Stopped):
                asked.step()

    def test_many_walks(self):
        for seed in range(40):
            chance = random.Random(seed)
            disk = Disk(chance.choice((2, 3, 5)))
            shelf = Shelf(disk)
            for _ in range(12):
                some_deed(chance, shelf)
            walk = Walk(shelf)
            last = (-1, -1)
            due = True
            while due:
                for _ in range(chance.randrange(3)):
                    some_deed(chance, shelf)
                due = sorted((name, values) for name, values in rows_of(pages_of(disk)).items() if name[:2] > last)
                self.assertEqual(walk.step(), due[0] if due else None)
                last = due[0][0][:2] if due else last
