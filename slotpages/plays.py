"""Plays: steps done one behind another with a new disk and its shelf, and steps as texts."""

from slotpages.disk import Disk, all_pages
from slotpages.errors import BadText, Full, NoRow, Stopped
from slotpages.forms import MOST_VALUES, are_values, is_number
from slotpages.shelf import Shelf
from slotpages.texts import NOTHING, number_of, numbers_of, rows_of, text_of

# What stands behind the word of each kind of step.
SHAPES = {
    "put": ("values",),
    "change": ("number", "values"),
    "drop": ("number",),
    "get": ("number",),
    "parts": ("number",),
    "tidy": (),
    "arm": ("number",),
    "again": (),
}


class Play:
    """A new disk, the shelf made of it last, and all names that put has told."""

    def __init__(self, many):
        self._disk = Disk(many)
        self._shelf = Shelf(self._disk)
        self._names = []

    def do(self, step):
        """Do a step, and tell what its deed tells, or the word of its refusal."""
        try:
            return self._deed(step)
        except Full:
            return "Full"
        except NoRow:
            return "NoRow"
        except Stopped:
            return "Stopped"

    def sheets(self):
        """The pages of the disk."""
        return all_pages(self._disk)

    def _deed(self, step):
        word = step[0]
        if word == "put":
            name = self._shelf.put(list(step[1]))
            self._names.append(name)
            return name
        if word == "tidy":
            return self._shelf.tidy()
        if word == "arm":
            return self._disk.arm(step[1])
        if word == "again":
            self._disk.again()
            self._shelf = Shelf(self._disk)
            return None
        return self._deed_with_row(step)

    def _deed_with_row(self, step):
        word, k = step[:2]
        if not is_number(k, 0, len(self._names) - 1):
            raise NoRow("put has told no name of this number")
        name = self._names[k]
        if word == "change":
            return self._shelf.change(name, list(step[2]))
        if word == "drop":
            return self._shelf.drop(name)
        if word == "get":
            return self._shelf.get(name)
        return self._shelf.parts(name)


def played(many, steps):
    """What some steps tell in a new play, and that play."""
    play = Play(many)
    told = [play.do(step) for step in steps]
    return told, play


def written_steps(steps):
    """The text of some steps."""
    return text_of([_step_words(step) for step in steps])


def read_steps(text):
    """The steps that a text tells."""
    steps = []
    for line, row in enumerate(rows_of(text)):
        step = _step_of(row)
        if step is None:
            raise BadText(line)
        steps.append(step)
    return steps


def _step_words(step):
    word, *things = step
    return [word] + [_word_of(thing) for thing in things]


def _word_of(thing):
    if not isinstance(thing, tuple):
        return str(thing)
    return ",".join([str(value) for value in thing]) if thing else NOTHING


def _step_of(row):
    """The step that a row tells; None if it tells none."""
    word, *words = row.split(" ")
    if word not in SHAPES or len(words) != len(SHAPES[word]):
        return None
    things = [
        number_of(told) if kind == "number" else _values_of(told)
        for kind, told in zip(SHAPES[word], words)
    ]
    return None if None in things else (word, *things)


def _values_of(word):
    """The values that a word tells; None if it tells none, or more than a row may have."""
    if word == NOTHING:
        return ()
    values = numbers_of(word.split(","))
    return values if len(values) <= MOST_VALUES and are_values(values) else None
