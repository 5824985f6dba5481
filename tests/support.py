"""What the tests share: pages made by hand, and an account of pages that is reckoned apart from the program."""

from itertools import combinations

from slotpages.disk import Disk
from slotpages.errors import Full, Stopped
from slotpages.shelf import Shelf

# Nothing among these is a number where numbers are told.
NO_NUMBERS = (True, False, None, "1", "", (), (1,))


def page(slots=(), cells=()):
    """A page with these slots first, and free ones of turn 0 behind; with these cells first, and 0 behind."""
    slots = tuple(slots) + (("free", 0),) * (8 - len(slots))
    return slots, tuple(cells) + (0,) * (24 - len(cells))


def disk_of(pages):
    disk = Disk(len(pages))
    for number, sheet in enumerate(pages):
        disk.write(number, sheet)
    return disk


def pages_of(disk):
    return [disk.page(number) for number in range(disk.pages())]


def all_slots(pages):
    return {(number, at): slot for number, sheet in enumerate(pages) for at, slot in enumerate(sheet[0])}


def rows_of(pages):
    """The values of all rows by their names."""
    slots = all_slots(pages)
    rows = {}
    for (number, at), slot in slots.items():
        if slot[0] == "row":
            values = []
            for place in row_chain(pages, (number, at)):
                begin, size = slots[place][2:4]
                values += pages[place[0]][1][begin:begin + size]
            rows[number, at, slot[1]] = values
    return rows


def row_chain(pages, place):
    slots = all_slots(pages)
    chain = []
    while place is not None:
        chain.append(place)
        place = slots[place][4]
    return chain


def free_of(sheet):
    held = {cell for slot in sheet[0] if slot[0] != "free" for cell in range(slot[2], slot[2] + slot[3])}
    return 24 - len(held)


def usable(sheet):
    return [at for at, slot in enumerate(sheet[0]) if slot[0] == "free" and slot[1] < 100]


def room_due(pages):
    """The room by the rows alone: what lies in parts to which none leads counts as free."""
    kept = {place for name in rows_of(pages) for place in row_chain(pages, name[:2])}
    cells = many = 0
    for number, sheet in enumerate(pages):
        slots = [slot if slot[0] == "free" or (number, at) in kept else ("free", slot[1])
                 for at, slot in enumerate(sheet[0])]
        good = usable((slots, sheet[1]))
        many += len(good)
        cells += free_of((slots, sheet[1])) if good else 0
    return cells, many


def fewest_for(many, own, others):
    """The fewest slots for so many values, by all choices there are: own tells the room of the own slot, or is None
    if any of the others may be it. None if the room doesn't do."""
    for count in range(len(others) + 1):
        for chosen in combinations(others, count):
            if own is None and count == 0:
                continue
            if (own or 0) + sum(chosen) >= many:
                return count + (own is not None)
    return None


def fewest_to_put(pages, many):
    return fewest_for(many, None, [free_of(sheet) for sheet in pages if usable(sheet)])


def fewest_to_change(pages, name, many):
    own = free_of(pages[name[0]]) + pages[name[0]][0][name[1]][3]
    others = [free_of(sheet) for number, sheet in enumerate(pages) if number != name[0] and usable(sheet)]
    return fewest_for(many, own, others)


def homes(pages):
    """The names that tidy tells, by pages as they stand ahead of it."""
    free = [free_of(sheet) for sheet in pages]
    slots = all_slots(pages)
    told = []
    for name, values in sorted(rows_of(pages).items()):
        chain = row_chain(pages, name[:2])
        away = len(values) - slots[chain[0]][3]
        if len(chain) > 1 and away <= free[name[0]]:
            told.append(name)
            free[name[0]] -= away
            for place in chain[1:]:
                free[place[0]] += slots[place][3]
    return told


def mended(pages):
    """The pages with all parts free to which no row leads."""
    kept = {place for name in rows_of(pages) for place in row_chain(pages, name[:2])}
    return [
        (tuple(slot if slot[0] != "part" or (number, at) in kept else ("free", slot[1])
               for at, slot in enumerate(slots)), cells)
        for number, (slots, cells) in enumerate(pages)
    ]


def wild_pages(chance, many):
    """Pages that judge lets by: with gaps, lost parts, rings, turns at their bounds, rows of no values."""
    ends = {}
    pages = []
    for number in range(many):
        slots = []
        begin = 0
        for at in range(8):
            word = chance.choice(("free", "row", "part"))
            size = chance.randrange(word == "part", 9)
            if word == "free" or begin + size > 24:
                slots.append(("free", chance.choice((0, 1, 99, 100))))
                continue
            slots.append((word, chance.choice((0, 7, 99)), begin, size))
            ends[number, at] = None
            begin = min(24, begin + size + chance.choice((0, 0, 1, 3)))
        pages.append((slots, tuple(chance.randrange(100) for _ in range(24))))
    parts = [place for place in ends if pages[place[0]][0][place[1]][0] == "part"]
    chance.shuffle(parts)
    for place in ends:
        if parts and chance.random() < 0.7:
            ends[place] = parts.pop()
    return [
        (tuple(slot if slot[0] == "free" else slot + (ends[number, at],) for at, slot in enumerate(slots)), cells)
        for number, (slots, cells) in enumerate(pages)
    ]


def stopped_pages(chance, many):
    """Pages as a shelf leaves them behind some deeds, of which the disk stopped the last one, with lost parts often."""
    disk = Disk(many)
    shelf = Shelf(disk)
    for _ in range(chance.randrange(3, 4 * many)):
        some_deed(chance, shelf)
    disk.arm(chance.randrange(3))
    try:
        for _ in range(3):
            some_deed(chance, shelf)
    except Stopped:
        pass
    disk.again()
    return pages_of(disk)


def some_deed(chance, shelf):
    """Do some deed, or none where it is refused as Full."""
    names = shelf.names()
    word = chance.choice(("put", "put", "put", "change", "change", "drop", "tidy"))
    values = [chance.randrange(100) for _ in range(chance.choice((0, 3, 9, 20, 30, 45)))]
    try:
        if word == "put":
            shelf.put(values)
        elif word == "tidy":
            shelf.tidy()
        elif names and word == "change":
            shelf.change(chance.choice(names), values)
        elif names:
            shelf.drop(chance.choice(names))
    except Full:
        pass
