import random
import unittest

from slotpages.disk import Disk
from slotpages.errors import BadCount, BadDisk, BadRow, Full, NoRow, Stopped
from slotpages.judging import judge, lost
from slotpages.plays import Play, played
from slotpages.shelf import Shelf
from slotpages.spread import held
from support import NO_NUMBERS, page, pages_of, room_due, rows_of
from test_disk import GREAT


def stopped_play():
    """A play of two rows, 0 of 30 values and 1 of two, whose disk stands, and the names."""
    told, play = played(2, [("put", (1,) * 30), ("put", (2, 3)), ("arm", 0), ("put", (4,))])
    assert told[2:] == [None, "Stopped"]
    return play, told[:2]


class TestSteps(unittest.TestCase):
    """Point 10, each kind of step."""

    def test_put_and_get(self):
        play = Play(2)
        for values in ((), (5,), (0, 99, 7), (1,) * 30):
            name = play.do(("put", values))
            self.assertEqual([type(thing) for thing in (name, *name)], [tuple, int, int, int])
        for k, values in enumerate(([], [5], [0, 99, 7], [1] * 30)):
            self.assertEqual(play.do(("get", k)), values)
        self.assertEqual(len(held(play.sheets())), 4)

    def test_put_tells_what_a_shelf_tells(self):
        play, shelf = Play(3), Shelf(Disk(3))
        for many in (0, 24, 25, 3, 1):
            self.assertEqual(play.do(("put", (7,) * many)), shelf.put([7] * many))

    def test_full(self):
        play = Play(2)
        self.assertEqual(play.do(("put", (1,) * 49)), "Full")
        self.assertEqual(play.do(("get", 0)), "NoRow")
        name = play.do(("put", (1,) * 40))
        self.assertEqual(play.do(("put", (1,) * 9)), "Full")
        self.assertEqual(play.do(("change", 0, (1,) * 49)), "Full")
        self.assertEqual(held(play.sheets()), [(name, [1] * 40)])
        self.assertEqual(play.do(("get", 0)), [1] * 40)

    def test_change(self):
        told, play = played(2, [("put", (1, 2)), ("put", (3,)), ("change", 1, (4, 5, 6)), ("change", 0, ())])
        self.assertEqual(told[2:], [None, None])
        self.assertEqual([play.do(("get", k)) for k in (0, 1)], [[], [4, 5, 6]])

    def test_drop(self):
        told, play = played(2, [("put", (1,)), ("put", (2,)), ("drop", 0)])
        self.assertIsNone(told[2])
        for step in (("get", 0), ("parts", 0), ("drop", 0), ("change", 0, ())):
            self.assertEqual(play.do(step), "NoRow")
        self.assertEqual(held(play.sheets()), [(told[1], [2])])

    def test_parts(self):
        told, play = played(3, [("put", (1,) * 24), ("put", (2,) * 48), ("parts", 0), ("parts", 1)])
        self.assertEqual(told[2:], [1, 2])
        self.assertEqual(play.do(("parts", 2)), "NoRow")

    def test_tidy_with_no_row_to_bring_home(self):
        told, play = played(2, [("tidy",), ("put", (1,) * 20), ("put", (2,) * 28), ("parts", 1), ("tidy",)])
        self.assertEqual([told[k] for k in (0, 3, 4)], [[], 2, []])
        self.assertEqual([play.do(("get", k)) for k in (0, 1)], [[1] * 20, [2] * 28])

    def test_tidy_tells_the_rows_that_came_home(self):
        told, play = played(2, [("put", (1,) * 20), ("put", (2,) * 20), ("put", (3,) * 8), ("parts", 2), ("drop", 0),
                                ("drop", 1), ("tidy",), ("parts", 2), ("tidy",)])
        self.assertEqual(told[3:], [2, None, None, [told[2]], 1, []])
        self.assertEqual(held(play.sheets()), [(told[2], [3] * 8)])

    def test_arm_and_again(self):
        told, play = played(2, [("put", (1,)), ("arm", 1), ("change", 0, (2,)), ("get", 0), ("change", 0, (3,)),
                                ("get", 0), ("again",), ("get", 0), ("change", 0, (4,)), ("drop", 0), ("get", 0)])
        self.assertEqual(told[1:], [None, None, [2], "Stopped", "Stopped", None, [2], None, None, "NoRow"])
        self.assertEqual(rows_of(play.sheets()), {})

    def test_arm_counts_single_writes(self):
        for count, stops in ((0, True), (1, True), (2, False), (999, False)):
            told, play = played(2, [("arm", count), ("put", (1,) * 30)])
            self.assertEqual(told[1] == "Stopped", stops)
            if stops:
                self.assertIsNone(play.do(("again",)))
                self.assertEqual(held(play.sheets()), [])

    def test_again_with_nothing_stopped(self):
        told, play = played(2, [("again",), ("put", (1,)), ("arm", 1), ("again",), ("put", (2,)), ("put", (3,))])
        self.assertEqual([told[k] for k in (0, 2, 3)], [None, None, None])
        self.assertEqual(held(play.sheets()), sorted(zip((told[1], told[4], told[5]), ([1], [2], [3]))))

    def test_again_makes_a_new_shelf_that_frees_what_is_lost(self):
        for count, values, room in ((0, [1] * 30, (18, 14)), (1, "NoRow", (48, 16))):
            told, play = played(2, [("put", (1,) * 30), ("arm", count), ("drop", 0), ("again",), ("get", 0)])
            self.assertEqual(told[1:], [None, "Stopped", None, values])
            sheets = play.sheets()
            self.assertEqual(lost(sheets), [])
            self.assertEqual(room_due(sheets), room)
            self.assertEqual(play.do(("put", (1,) * (room[0] + 1))), "Full")
            self.assertNotEqual(play.do(("put", (1,) * room[0])), "Full")

    def test_a_stopped_put_is_behind_no_number(self):
        play = Play(2)
        play.do(("put", (1,)))
        play.do(("arm", 1))
        self.assertEqual(play.do(("put", (2,) * 30)), "Stopped")
        play.do(("again",))
        self.assertEqual(play.do(("get", 1)), "NoRow")
        name = play.do(("put", (3,)))
        self.assertEqual(play.do(("get", 1)), [3])
        self.assertEqual([told for told, _ in held(play.sheets()) if told == name], [name])

    def test_a_full_put_is_behind_no_number(self):
        told, play = played(2, [("put", (1,) * 49), ("put", (2,)), ("put", (1,) * 48), ("put", (3,)), ("get", 0),
                                ("get", 1), ("get", 2)])
        self.assertEqual([told[k] for k in (0, 2, 4, 5, 6)], ["Full", "Full", [2], [3], "NoRow"])

    def test_numbers_go_on_behind_drops_and_again(self):
        told, play = played(2, [("put", (1,)), ("drop", 0), ("put", (2,)), ("again",), ("put", (3,)), ("get", 0),
                                ("get", 1), ("get", 2), ("get", 3)])
        self.assertEqual(told[5:], ["NoRow", [2], [3], "NoRow"])

    def test_a_dropped_name_means_no_row_that_is_put_in_its_slot(self):
        play = Play(2)
        for k in range(20):
            play.do(("put", (k,)))
            self.assertEqual(play.do(("get", k)), [k])
            play.do(("drop", k))
            self.assertEqual({play.do(("get", known)) for known in range(k + 1)}, {"NoRow"})

    def test_a_k_that_there_is_not(self):
        play = Play(2)
        kept = play.sheets()
        for k in (0, 1, 999, -1, GREAT) + NO_NUMBERS:
            for step in (("get", k), ("parts", k), ("drop", k), ("change", k, (1,)), ("change", k, (1,) * 300)):
                self.assertEqual(play.do(step), "NoRow")
        self.assertEqual(play.sheets(), kept)
        play.do(("put", (1,)))
        play.do(("put", (2,)))
        for k in (-1, -2, 2, 999) + NO_NUMBERS:
            self.assertEqual(play.do(("drop", k)), "NoRow")
        self.assertEqual(len(held(play.sheets())), 2)

    def test_no_row_stands_ahead_of_all_else_of_a_k_that_there_is_not(self):
        play, _ = stopped_play()
        for k in (2, 999, -1):
            for step in (("get", k), ("parts", k), ("drop", k), ("change", k, (1,)), ("change", k, (1,) * 300),
                         ("change", k, (100,)), ("change", k, (1,) * 301)):
                self.assertEqual(play.do(step), "NoRow")

    def test_bad_rows_and_counts_are_refused_as_the_shelf_and_the_disk_do(self):
        play = Play(2)
        name = play.do(("put", (1,)))
        for values in ((100,), (-1,), (True,), (None,), (1, ()), (1,) * 301):
            with self.assertRaises(BadRow):
                play.do(("put", values))
            with self.assertRaises(BadRow):
                play.do(("change", 0, values))
        with self.assertRaises(BadCount):
            play.do(("arm", 10 ** 6 + 1))
        self.assertEqual(held(play.sheets()), [(name, [1])])
        self.assertEqual(play.do(("get", 1)), "NoRow")


class TestWhileTheDiskStands(unittest.TestCase):
    """Point 10, behind a stop."""

    def test_each_step_but_arm_and_again_is_stopped(self):
        play, names = stopped_play()
        for step in (("put", (1,)), ("put", ()), ("put", (1,) * 300), ("change", 0, (1,)), ("change", 1, (1,) * 300),
                     ("drop", 0), ("get", 1), ("parts", 0), ("tidy",)):
            for _ in range(2):
                self.assertEqual(play.do(step), "Stopped", step)
        self.assertIsNone(play.do(("again",)))
        self.assertEqual(held(play.sheets()), sorted(zip(names, ([1] * 30, [2, 3]))))

    def test_arm_does_not_let_it_go_on(self):
        play, _ = stopped_play()
        self.assertIsNone(play.do(("arm", 999)))
        self.assertEqual(play.do(("get", 0)), "Stopped")
        self.assertIsNone(play.do(("again",)))
        self.assertEqual(play.do(("get", 0)), [1] * 30)

    def test_a_dropped_name_is_stopped_too(self):
        told, play = played(2, [("put", (1,)), ("drop", 0), ("arm", 0), ("put", (1,)), ("get", 0), ("again",),
                                ("get", 0)])
        self.assertEqual(told[3:], ["Stopped", "Stopped", None, "NoRow"])

    def test_sheets_are_refused(self):
        play, _ = stopped_play()
        for _ in range(2):
            with self.assertRaises(Stopped):
                play.sheets()
        play.do(("again",))
        self.assertEqual(len(play.sheets()), 2)


class TestPlayed(unittest.TestCase):
    """Point 10, Play and played as such."""

    def test_how_many_pages(self):
        for many in (2, 3, 11, 12):
            self.assertEqual(Play(many).sheets(), [page()] * many)
            told, play = played(many, [])
            self.assertEqual((told, play.sheets()), ([], [page()] * many))
        for many in (-1, 0, 1, 13, GREAT, -GREAT) + NO_NUMBERS:
            with self.assertRaises(BadDisk):
                Play(many)
            with self.assertRaises(BadDisk):
                played(many, [])
            with self.assertRaises(BadDisk):
                played(many, [("put", (100,))])

    def test_kinds(self):
        told = played(2, [("tidy",)])
        self.assertIs(type(told), tuple)
        self.assertIs(type(told[0]), list)
        self.assertIs(type(told[1]), Play)
        self.assertIs(type(told[1].sheets()), list)

    def test_played_tells_what_do_tells(self):
        for seed in range(60):
            chance = random.Random(seed)
            many = chance.choice((2, 3))
            steps = some_steps(chance, 40)
            kept = list(steps)
            told, play = played(many, steps)
            self.assertEqual(steps, kept)
            other = Play(many)
            self.assertEqual(told, [other.do(step) for step in steps])
            play.do(("again",))
            other.do(("again",))
            self.assertEqual(play.sheets(), other.sheets())
            self.assertEqual(played(many, steps)[0], told)

    def test_played_does_what_a_disk_and_shelves_do(self):
        for seed in range(60):
            chance = random.Random(seed)
            many = chance.choice((2, 3, 4))
            steps = some_steps(chance, 60)
            told, play = played(many, steps)
            by_hand = ByHand(many)
            self.assertEqual(told, [by_hand.do(step) for step in steps])
            by_hand.do(("again",))
            play.do(("again",))
            self.assertEqual(play.sheets(), pages_of(by_hand.disk))
            self.assertIsNone(judge(play.sheets()))

    def test_the_steps_are_not_kept(self):
        steps = [("put", (1,)), ("get", 0)]
        told, play = played(2, steps)
        steps.append(("drop", 0))
        steps[0] = None
        self.assertEqual((told[1], play.do(("get", 0))), ([1], [1]))

    def test_what_is_told_may_be_changed(self):
        told, play = played(2, [("put", (1, 2)), ("get", 0), ("tidy",)])
        name = told[0]
        told[1].append(9)
        told[2].append(name)
        told.clear()
        play.sheets().clear()
        play.do(("get", 0)).clear()
        self.assertEqual(play.do(("get", 0)), [1, 2])
        self.assertEqual(play.do(("tidy",)), [])
        self.assertEqual(held(play.sheets()), [(name, [1, 2])])

    def test_plays_have_nothing_to_do_with_each_other(self):
        one, other = Play(2), Play(2)
        disk = Disk(2)
        shelf = Shelf(disk)
        name = one.do(("put", (1,)))
        self.assertEqual(other.do(("get", 0)), "NoRow")
        one.do(("arm", 0))
        self.assertEqual(one.do(("drop", 0)), "Stopped")
        self.assertEqual(other.do(("put", (2,))), name)
        self.assertEqual((other.do(("get", 0)), one.do(("get", 0))), ([2], "Stopped"))
        self.assertEqual(shelf.names(), [])
        self.assertEqual(shelf.put([3]), name)
        one.do(("again",))
        self.assertEqual((one.do(("get", 0)), other.do(("get", 0)), shelf.get(name)), ([1], [2], [3]))


class ByHand:
    """The steps of a play, done by hand with a disk and shelves."""

    def __init__(self, many):
        self.disk = Disk(many)
        self.shelf = Shelf(self.disk)
        self.names = []

    def do(self, step):
        word, *things = step
        if word in ("change", "drop", "get", "parts"):
            if not 0 <= things[0] < len(self.names):
                return "NoRow"
            things[0] = self.names[things[0]]
        if word in ("put", "change"):
            things[-1] = list(things[-1])
        if word == "again":
            self.disk.again()
            self.shelf = Shelf(self.disk)
            return None
        try:
            told = getattr(self.disk if word == "arm" else self.shelf, word)(*things)
        except (Full, NoRow, Stopped) as error:
            return type(error).__name__
        if word == "put":
            self.names.append(told)
        return told


def some_steps(chance, many):
    steps = []
    for _ in range(many):
        word = chance.choice(("put", "put", "put", "change", "change", "drop", "get", "parts", "tidy", "arm", "again"))
        k = chance.randrange(8)
        values = tuple(chance.randrange(100) for _ in range(chance.choice((0, 2, 7, 15, 30, 60))))
        steps.append({"put": ("put", values), "change": ("change", k, values), "arm": ("arm", chance.randrange(5)),
                      "tidy": ("tidy",), "again": ("again",)}.get(word, (word, k)))
    return steps
