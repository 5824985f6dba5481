"""The bounds of pages, slots and rows, and whether a thing is such."""

SLOTS = 8
CELLS = 24
MOST_PAGES = 12
MOST_VALUES = 300
GREATEST_CELL = 99
GREATEST_TURN = 99
SPENT_TURN = 100


def is_number(thing, low, high):
    """Whether a thing is a whole number within these bounds."""
    return isinstance(thing, int) and not isinstance(thing, bool) and low <= thing <= high


def is_tuple(thing, many):
    """Whether a thing is a tuple of so many things."""
    return isinstance(thing, tuple) and len(thing) == many


def is_next(thing):
    """Whether a thing may stand as the next of a slot."""
    if thing is None:
        return True
    return is_tuple(thing, 2) and is_number(thing[0], 0, MOST_PAGES - 1) and is_number(thing[1], 0, SLOTS - 1)


def _holds(thing, least):
    """Whether a tuple has what is told behind the word of a slot that holds this many cells or more."""
    if len(thing) != 5:
        return False
    _, turn, begin, size, after = thing
    if not is_number(turn, 0, GREATEST_TURN) or not is_number(begin, 0, CELLS):
        return False
    return is_number(size, least, CELLS - begin) and is_next(after)


def is_slot(thing):
    """Whether a thing is a slot, wherever it may lead."""
    if not isinstance(thing, tuple) or not thing:
        return False
    if thing[0] == "free":
        return len(thing) == 2 and is_number(thing[1], 0, SPENT_TURN)
    if thing[0] == "row":
        return _holds(thing, 0)
    return thing[0] == "part" and _holds(thing, 1)


def are_values(things):
    """Whether the things of a list or a tuple are numbers that cells may have."""
    return all(is_number(thing, 0, GREATEST_CELL) for thing in things)


def are_cells(thing):
    """Whether a thing is a tuple of 24 cells."""
    return is_tuple(thing, CELLS) and are_values(thing)


def is_frame(thing):
    """Whether a thing is a tuple of eight things, be they slots or not, and of 24 cells."""
    if not is_tuple(thing, 2):
        return False
    slots, cells = thing
    return is_tuple(slots, SLOTS) and are_cells(cells)


def is_page(thing):
    """Whether a thing is a page."""
    return is_frame(thing) and all(is_slot(slot) for slot in thing[0])


def fresh_page():
    """A page in which nothing lies yet."""
    return (("free", 0),) * SLOTS, (0,) * CELLS
