"""How values are shared out over the room of some pages."""

from slotpages.errors import Full
from slotpages.sheet import free_cells, usable_slots


def usable_pages(sheets, but=None):
    """The numbers of the pages that may be used, without one, those with the most free cells first."""
    usable = [number for number, sheet in enumerate(sheets) if number != but and usable_slots(sheet)]
    return sorted(usable, key=lambda number: -free_cells(sheets[number]))


def pages_for_put(sheets):
    """The numbers of the pages that a row that is put may lie in, the one for its own slot first."""
    pages = usable_pages(sheets)
    if not pages:
        raise Full("no page may be used")
    return pages


def shares(many, rooms):
    """How many of so many values lie in each of the first rooms, as few as do; in the first one perhaps none.

    Behind the first one, which is taken anyhow, the greatest rooms stand first: so the slots are the fewest.
    """
    sizes = []
    left = many
    for room in rooms:
        if sizes and left == 0:
            break
        size = min(left, room)
        sizes.append(size)
        left -= size
    if left > 0:
        raise Full("the room doesn't do")
    return sizes
