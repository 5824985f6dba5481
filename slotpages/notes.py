"""Pages as texts: a row for each slot, and one for the cells."""

from slotpages.errors import BadPage, BadText
from slotpages.forms import SLOTS, are_cells, is_page, is_slot
from slotpages.texts import NOTHING, numbers_of, rows_of, text_of

CELLS_WORD = "cells"


def written(sheets):
    """The text of some pages."""
    rows = []
    for sheet in sheets:
        if not is_page(sheet):
            raise BadPage("this is no page")
        slots, cells = sheet
        rows.extend([_slot_words(slot) for slot in slots])
        rows.append([CELLS_WORD] + [str(cell) for cell in cells])
    return text_of(rows)


def read(text):
    """The pages that a text tells."""
    sheets = []
    slots = []
    rows = rows_of(text)
    for line, row in enumerate(rows):
        if len(slots) < SLOTS:
            slot = _slot_of(row)
            if not is_slot(slot):
                raise BadText(line)
            slots.append(slot)
        else:
            cells = _cells_of(row)
            if not are_cells(cells):
                raise BadText(line)
            sheets.append((tuple(slots), cells))
            slots = []
    if slots:
        raise BadText(len(rows))
    return sheets


def _slot_words(slot):
    if slot[0] == "free":
        return ["free", str(slot[1])]
    word, turn, begin, size, after = slot
    return [word, str(turn), str(begin), str(size), _next_word(after)]


def _next_word(after):
    if after is None:
        return NOTHING
    number, at = after
    return f"{number}.{at}"


def _cells_of(row):
    """What a row tells where cells are due; it may be none."""
    word, *words = row.split(" ")
    return numbers_of(words) if word == CELLS_WORD else None


def _slot_of(row):
    """What a row tells where a slot is due; it may be none: what is no number stands in it as None."""
    word, *words = row.split(" ")
    nexts = [_next_of(told) for told in words[3:]]
    return (word, *numbers_of(words[:3]), *nexts)


def _next_of(word):
    if word == NOTHING:
        return None
    return numbers_of(word.split("."))
