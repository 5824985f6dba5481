import random
import unittest

from slotpages.errors import BadText
from slotpages.plays import played, read_steps, written_steps
from test_notes import BAD_NUMBERS
from test_plays import some_steps

PAIRS = (
    ("put -", ("put", ())), ("put 0", ("put", (0,))), ("put 99", ("put", (99,))), ("put 4,99", ("put", (4, 99))),
    ("put 1,20,3", ("put", (1, 20, 3))), ("change 3 4,99", ("change", 3, (4, 99))), ("change 0 -", ("change", 0, ())),
    ("change 999 7", ("change", 999, (7,))), ("drop 0", ("drop", 0)), ("drop 999", ("drop", 999)),
    ("get 10", ("get", 10)), ("get 100", ("get", 100)), ("parts 7", ("parts", 7)), ("parts 999", ("parts", 999)),
    ("tidy", ("tidy",)), ("arm 0", ("arm", 0)), ("arm 999", ("arm", 999)), ("again", ("again",)),
    ("put " + ",".join(["7"] * 300), ("put", (7,) * 300)),
    ("change 5 " + ",".join(["0"] * 300), ("change", 5, (0,) * 300)),
)

BAD_STEPS = (
    "", " ", "-", "0", "put", "change", "drop", "get", "parts", "arm", "Put 1", "puts 1", "pu 1", "put1", "put,1",
    "put 1 2", "put 1,2 3", "put 1, 2", "put 1 ,2", "put  1", " put 1", "put 1 ", "put -1", "put --", "put - -",
    "put 1,-", "put -,1", "put ,", "put ,1", "put 1,", "put 1,,2", "put 100", "put 999", "put 1,100", "put 100,1",
    "put (1,2)", "put []", "put 1;2", "put 1.2", "put " + ",".join(["7"] * 301), "change 3", "change 3 4 5",
    "change 4,99", "change - -", "change 3  4", "change 3, 4", "change 3 4,", "change 3 100", "change 3,4 5",
    "change -1 4", "change 1000 4", "change 5 " + ",".join(["0"] * 301), "drop -", "drop 1 2", "drop 1,2",
    "drop 1000", "drop -1", "get -", "get 1 1", "parts 1 -", "tidy 0", "tidy -", "tidy ", " tidy", "tidy,", "Tidy",
    "tidyagain", "again 1", "again -", "again ", "AGAIN", "arm", "arm -", "arm 1,2", "arm 1 2", "arm 1000", "full",
    "Full", "sheets", "names", "room", "lost", "walk", "row 0",
) + tuple(f"{word} {number}" for word in ("drop", "get", "parts", "arm") for number in BAD_NUMBERS) + tuple(
    f"change {number} 1" for number in BAD_NUMBERS) + tuple(
    # These two may stand where values are due.
    f"{start}{number}" for start in ("put ", "put 1,", "change 1 ") for number in BAD_NUMBERS
    if number not in ("1,2", "-") or (start, number) == ("put 1,", "-"))


class TestWritten(unittest.TestCase):
    """Point 11, written_steps."""

    def test_no_steps(self):
        self.assertEqual(written_steps([]), "")

    def test_each_kind_of_step(self):
        for text, step in PAIRS:
            self.assertEqual(written_steps([step]), text)

    def test_all_in_their_order(self):
        self.assertEqual(written_steps([step for _, step in PAIRS]), "\n".join(text for text, _ in PAIRS))
        self.assertEqual(written_steps([("tidy",), ("tidy",), ("put", ())]), "tidy\ntidy\nput -")

    def test_the_list_is_not_changed(self):
        steps = [step for _, step in PAIRS]
        kept = list(steps)
        self.assertEqual(written_steps(steps), written_steps(steps))
        self.assertEqual(steps, kept)


class TestRead(unittest.TestCase):
    """Point 11, read_steps."""

    def refused(self, rows, line):
        with self.assertRaises(BadText, msg=repr(rows)) as told:
            read_steps("\n".join(rows))
        self.assertEqual(told.exception.line, line, rows)

    def test_no_steps(self):
        self.assertEqual(read_steps(""), [])

    def test_each_kind_of_step(self):
        for text, step in PAIRS:
            self.assertEqual(read_steps(text), [step])
        self.assertEqual(read_steps("\n".join(text for text, _ in PAIRS)), [step for _, step in PAIRS])

    def test_kinds(self):
        told = read_steps("change 3 4,99\nput -")
        self.assertEqual([type(thing) for thing in (told, told[0], *told[0], *told[1])],
                         [list, tuple, str, int, tuple, str, tuple])

    def test_rows_that_are_no_steps(self):
        for bad in BAD_STEPS:
            # The empty text alone is one of no steps.
            if bad:
                self.refused([bad], 0)
            self.refused([bad, "tidy"], 0)
            self.refused(["tidy", "put 1", bad], 2)
            self.refused(["tidy", bad, "put 1", bad], 1)

    def test_the_first_row_that_can_not_be_is_told(self):
        self.refused(["0put put"], 0)
        self.refused(["tidy", "put 5", "drop"], 2)
        rows = ["tidy"] * 300
        for line in reversed(range(300)):
            rows[line] = "drop"
            self.refused(rows, line)

    def test_line_ends_at_both_ends_and_empty_rows(self):
        self.refused(["tidy", ""], 1)
        self.refused(["", "tidy"], 0)
        self.refused(["tidy", "", "tidy"], 1)
        self.refused(["tidy", "", ""], 1)
        self.refused(["", ""], 0)

    def test_every_number(self):
        for number in range(1000):
            self.assertEqual(read_steps(f"drop {number}\narm {number}\nchange {number} 1"),
                             [("drop", number), ("arm", number), ("change", number, (1,))])
            if number < 100:
                self.assertEqual(read_steps(f"put {number}\nchange 0 {number}"),
                                 [("put", (number,)), ("change", 0, (number,))])
            else:
                self.refused(["tidy", f"put {number}"], 1)
                self.refused([f"change 0 {number}"], 0)

    def test_how_many_values(self):
        for many in (1, 2, 299, 300):
            self.assertEqual(read_steps("put " + ",".join(["5"] * many)), [("put", (5,) * many)])
        for many in (301, 302, 400):
            self.refused(["put " + ",".join(["5"] * many)], 0)
            self.refused(["again", "change 1 " + ",".join(["5"] * many)], 1)


class TestBoth(unittest.TestCase):
    """Point 11: what is written is read to the same."""

    def test_some_steps(self):
        for seed in range(100):
            chance = random.Random(seed)
            steps = some_steps(chance, chance.randrange(30))
            text = written_steps(steps)
            self.assertEqual(read_steps(text), steps)
            self.assertEqual(written_steps(read_steps(text)), text)

    def test_four_hundred_steps(self):
        steps = [("get", k) for k in range(400)]
        self.assertEqual(read_steps(written_steps(steps)), steps)

    def test_steps_that_were_read_are_played(self):
        told, play = played(2, read_steps("put 4,99\nput -\nchange 1 7,8\nget 0\nget 1\ndrop 0\nget 0\nparts 1\ntidy"))
        self.assertEqual(told[2:], [None, [4, 99], [7, 8], None, "NoRow", 1, []])

    def test_what_is_read_may_be_changed(self):
        read_steps("tidy").clear()
        self.assertEqual(read_steps("tidy"), [("tidy",)])
