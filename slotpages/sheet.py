"""One page: its room, and the page that comes of it by one deed. No page is changed, another one is told."""

from slotpages.forms import CELLS, SPENT_TURN


def size_of(slot):
    """How many cells a slot holds."""
    return 0 if slot[0] == "free" else slot[3]


def free_cells(page):
    """How many cells no slot holds."""
    return CELLS - sum(size_of(slot) for slot in page[0])


def room_at(page, at):
    """How many values this slot may have, if all others keep theirs."""
    return free_cells(page) + size_of(page[0][at])


def usable_slots(page):
    """The numbers of the free slots that may be used, rising."""
    return [at for at, slot in enumerate(page[0]) if slot[0] == "free" and slot[1] < SPENT_TURN]


def with_slot(page, at, slot):
    """The page with another slot in this place, and the same cells."""
    slots, cells = page
    return slots[:at] + (slot,) + slots[at + 1:], cells


def with_part_free(page, at):
    """The page with the part in this place made free, its turn staying."""
    return with_slot(page, at, ("free", page[0][at][1]))


def with_values(page, at, word, values, after):
    """The page with a row or a part of these values in this slot, which keeps its turn."""
    held = [(slot, _cells_of(page, slot)) for slot in page[0]]
    held[at] = (word, page[0][at][1], 0, 0, after), values
    return _packed(held)


def _cells_of(page, slot):
    if slot[0] == "free":
        return ()
    return page[1][slot[2]:slot[2] + slot[3]]


def _packed(held):
    """The page of these slots and their values, one behind another: free cells that lay apart come together."""
    slots = []
    cells = []
    for slot, values in held:
        if slot[0] == "free":
            slots.append(slot)
            continue
        # Behind a full page no cell is left where a slot without values could begin.
        begin = len(cells) if len(values) > 0 else 0
        slots.append((slot[0], slot[1], begin, len(values), slot[4]))
        cells.extend(values)
    cells.extend([0] * (CELLS - len(cells)))
    return tuple(slots), tuple(cells)
