"""Which pages can be, and which of their parts are lost."""

from slotpages.chains import places_from, row_places
from slotpages.forms import is_frame, is_slot


def judge(sheets):
    """The (page, slot) of the first that can't be, (page, -1) of what has no frame of a page; None if there is none."""
    led = {}
    for number, sheet in enumerate(sheets):
        if not is_frame(sheet):
            return number, -1
        for at, slot in enumerate(sheet[0]):
            if not is_slot(slot) or _overlaps(sheet[0], at) or not _leads_well(sheets, slot, led):
                return number, at
            if slot[0] != "free":
                led[slot[4]] = True
    return None


def lost(sheets):
    """The places of all parts to which no row leads, straight or not, rising; of pages that judge lets by."""
    reached = {}
    for own in row_places(sheets):
        for place in places_from(sheets, own):
            reached[place] = True
    return [
        (number, at)
        for number, sheet in enumerate(sheets)
        for at, slot in enumerate(sheet[0])
        if slot[0] == "part" and (number, at) not in reached
    ]


def _overlaps(slots, at):
    """Whether a slot holds a cell that one ahead of it holds, which all are slots."""
    if slots[at][0] == "free":
        return False
    begin, size = slots[at][2:4]
    for other in slots[:at]:
        if other[0] != "free" and max(begin, other[2]) < min(begin + size, other[2] + other[3]):
            return True
    return False


def _leads_well(sheets, slot, led):
    """Whether a slot leads nowhere, or to a part to which none of the slots ahead leads."""
    if slot[0] == "free" or slot[4] is None:
        return True
    number, at = slot[4]
    if slot[4] in led or number >= len(sheets) or not is_frame(sheets[number]):
        return False
    target = sheets[number][0][at]
    return is_slot(target) and target[0] == "part"
