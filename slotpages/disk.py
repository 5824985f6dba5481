"""The disk: some pages, and writes that may stop."""

from slotpages.errors import BadCount, BadDisk, BadPage, NoPage, Stopped
from slotpages.forms import MOST_PAGES, fresh_page, is_number, is_page

LEAST_PAGES = 2
GREATEST_COUNT = 10 ** 6


def all_pages(disk):
    """The pages of a disk, in their order."""
    return [disk.page(number) for number in range(disk.pages())]


class Disk:
    """Pages that are read and written one at a time."""

    def __init__(self, many):
        if not is_number(many, LEAST_PAGES, MOST_PAGES):
            raise BadDisk("a disk has 2 to 12 pages")
        self._sheets = [fresh_page() for _ in range(many)]
        self._done = 0
        # How many writes are done ahead of the stop; None if there is no end.
        self._left = None
        self._stands = False

    def pages(self):
        """How many pages there are."""
        return len(self._sheets)

    def writes(self):
        """How many writes were done in all."""
        return self._done

    def page(self, number):
        """The page of this number."""
        self._check(number)
        return self._sheets[number]

    def write(self, number, page):
        """Lay another page in the place of this one."""
        self._check(number)
        if not is_page(page):
            raise BadPage("this is no page")
        self._count_down()
        self._sheets[number] = page
        self._done += 1

    def arm(self, count):
        """Let so many writes be done, and stop at the next one."""
        if not is_number(count, 0, GREATEST_COUNT):
            raise BadCount("a disk is armed with 0 to 10 ** 6 writes")
        self._left = count

    def again(self):
        """Let the disk go on, without an end."""
        self._left = None
        self._stands = False

    def _check(self, number):
        if self._stands:
            raise Stopped("the disk stands")
        if not is_number(number, 0, len(self._sheets) - 1):
            raise NoPage("the disk has no such page")

    def _count_down(self):
        if self._left is None:
            return
        if self._left == 0:
            self._stands = True
            raise Stopped("the disk stops at this write")
        self._left -= 1
