"""The shelf: rows that are put, got, changed and dropped, on a disk that may stop at any write.

Each deed has one write that makes it done, that of the page of the row's own slot. Ahead of it only
parts are written to which no row leads yet, behind it only parts are made free to which none leads any
more. So a stop leaves lost parts at the most, and the next shelf makes them free.
"""

from slotpages.chains import places_from, row_names, slot_at, values_from
from slotpages.disk import all_pages
from slotpages.errors import BadRow, NoRow
from slotpages.forms import GREATEST_TURN, MOST_VALUES, SLOTS, are_values, is_number, is_tuple
from slotpages.judging import lost
from slotpages.rooms import pages_for_put, shares, usable_pages
from slotpages.sheet import free_cells, room_at, usable_slots, with_part_free, with_slot, with_values


class Shelf:
    """Rows by their names, (page, slot, turn). All that is known of them stands on the disk."""

    def __init__(self, disk):
        self._disk = disk
        self._free_lost()

    def put(self, values):
        """Put a row of these values, and tell its name."""
        sheets = self._pages()
        _check_values(values)
        pages = pages_for_put(sheets)
        number = pages[0]
        at = usable_slots(sheets[number])[0]
        self._settle(sheets, (number, at), pages[1:], values)
        return number, at, sheets[number][0][at][1]

    def get(self, name):
        """The values of a row."""
        sheets = self._pages()
        return values_from(sheets, _place(sheets, name))

    def names(self):
        """The names of all rows, rising."""
        return row_names(self._pages())

    def parts(self, name):
        """In how many slots a row lies."""
        sheets = self._pages()
        return len(places_from(sheets, _place(sheets, name)))

    def change(self, name, values):
        """Give a row other values."""
        sheets = self._pages()
        place = _place(sheets, name)
        _check_values(values)
        old = places_from(sheets, place)[1:]
        self._settle(sheets, place, usable_pages(sheets, place[0]), values)
        self._free(old)

    def drop(self, name):
        """Drop a row; its name is never told again."""
        sheets = self._pages()
        number, at = _place(sheets, name)
        old = places_from(sheets, (number, at))[1:]
        self._disk.write(number, with_slot(sheets[number], at, ("free", name[2] + 1)))
        self._free(old)

    def tidy(self):
        """Bring rows home to their own slots alone, where their pages have the room, and tell their names."""
        home = []
        for name in self.names():
            sheets = self._pages()
            number, at, _ = name
            values = values_from(sheets, (number, at))
            if self.parts(name) > 1 and len(values) <= room_at(sheets[number], at):
                # In its own slot alone it lies in the fewest slots, so change lays it there.
                self.change(name, values)
                home.append(name)
        return home

    def room(self):
        """How many values a row that is put may have, and how many free slots may be used."""
        sheets = self._pages()
        cells = sum(free_cells(sheets[number]) for number in usable_pages(sheets))
        return cells, sum(len(usable_slots(sheet)) for sheet in sheets)

    def _pages(self):
        return all_pages(self._disk)

    def _settle(self, sheets, place, pages, values):
        """Lay values in the own slot at a place, and in parts in the first of these pages, as few as do."""
        number, at = place
        rooms = [room_at(sheets[number], at)] + [free_cells(sheets[page]) for page in pages]
        sizes = shares(len(values), rooms)
        after = None
        end = len(values)
        # The last part first: no part leads to one that isn't there yet.
        for page, size in reversed(list(zip(pages, sizes[1:]))):
            spot = usable_slots(sheets[page])[0]
            self._disk.write(page, with_values(sheets[page], spot, "part", values[end - size:end], after))
            after = page, spot
            end -= size
        self._disk.write(number, with_values(sheets[number], at, "row", values[:end], after))

    def _free(self, places):
        """Make parts free. None of them may be led to, but by one ahead of it among them."""
        for number, at in places:
            self._disk.write(number, with_part_free(self._disk.page(number), at))

    def _free_lost(self):
        sheets = self._pages()
        places = lost(sheets)
        for place in places:
            word, turn, begin, size, after = slot_at(sheets, place)
            # A part may not lead to one that is made free ahead of it: a stop between would leave
            # pages that judge doesn't let by.
            if after is not None and after < place:
                page = self._disk.page(place[0])
                self._disk.write(place[0], with_slot(page, place[1], (word, turn, begin, size, None)))
        self._free(places)


def _check_values(values):
    if not isinstance(values, list) or len(values) > MOST_VALUES:
        raise BadRow("a row is a list of at most 300 values")
    if not are_values(values):
        raise BadRow("a value is a number from 0 to 99")


def _place(sheets, name):
    """The (page, slot) of the row of this name."""
    if _is_name(name, len(sheets)):
        slot = sheets[name[0]][0][name[1]]
        if slot[0] == "row" and slot[1] == name[2]:
            return name[:2]
    raise NoRow("no row that is there has this name")


def _is_name(name, many):
    if not is_tuple(name, 3) or not is_number(name[0], 0, many - 1):
        return False
    return is_number(name[1], 0, SLOTS - 1) and is_number(name[2], 0, GREATEST_TURN)
