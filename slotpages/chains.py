"""Rows over a list of pages that judge lets by: their places, one behind another, and their values."""


def slot_at(sheets, place):
    """The slot at a place (page, slot)."""
    return sheets[place[0]][0][place[1]]


def places_from(sheets, place):
    """This place and all those to which it leads, straight or not, in their order."""
    places = []
    while place is not None:
        places.append(place)
        place = slot_at(sheets, place)[4]
    return places


def row_places(sheets):
    """The places of the rows' own slots, rising."""
    return [
        (number, at)
        for number, sheet in enumerate(sheets)
        for at, slot in enumerate(sheet[0])
        if slot[0] == "row"
    ]


def row_names(sheets):
    """The names of the rows, rising."""
    return [(*place, slot_at(sheets, place)[1]) for place in row_places(sheets)]


def values_from(sheets, place):
    """The values of the row whose own slot is at this place."""
    values = []
    for number, at in places_from(sheets, place):
        slots, cells = sheets[number]
        begin, size = slots[at][2:4]
        values.extend(cells[begin:begin + size])
    return values
