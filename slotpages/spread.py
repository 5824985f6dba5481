"""Pages compared: in how many slots a row would lie in them, which rows they hold, and where they differ."""

from slotpages.chains import row_names, values_from
from slotpages.judging import lost
from slotpages.rooms import pages_for_put, shares
from slotpages.sheet import free_cells, with_part_free


def fewest(sheets, many):
    """In how many slots a row of so many values would lie, if a shelf of these pages put it."""
    mended = _mended(sheets)
    rooms = [free_cells(mended[number]) for number in pages_for_put(mended)]
    return len(shares(many, rooms))


def held(sheets):
    """The (name, values) of all rows, rising."""
    return [(name, values_from(sheets, name[:2])) for name in row_names(sheets)]


def apart(one, other):
    """The least name by which two lists of pages hold other values, or which one alone has; None if there is none."""
    rows = dict(held(one))
    others = dict(held(other))
    for name in sorted([*rows, *others]):
        # None stands for a name that isn't there: a row of no values is an empty list.
        if rows.get(name) != others.get(name):
            return name
    return None


def _mended(sheets):
    """The pages as a shelf that is made of them has them: with the room of the lost parts."""
    mended = list(sheets)
    for number, at in lost(sheets):
        mended[number] = with_part_free(mended[number], at)
    return mended
