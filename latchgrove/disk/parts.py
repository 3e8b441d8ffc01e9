"""What coming up writes to a disk, one by one, and disks that lose their first rows."""

from latchgrove.disk.logs import last_number, need_disk
from latchgrove.disk.up import pages_there, pages_up, whole_rows
from latchgrove.errors import NoCut, NoNumber
from latchgrove.pages.kinds import is_between


def writes_up(disk):
    """(number, mark, page) of each page that coming up writes, rising."""
    need_disk(disk)
    return page_writes(disk)


def page_writes(disk):
    """Each page that comes up unlike what is there, by itself or by its mark."""
    there, pages = pages_there(disk), pages_up(disk)
    # What comes up where nothing stood got a row's number as its mark, so it is unlike in any case.
    return tuple([(number, *pages[number]) for number in sorted(pages) if pages[number] != there.get(number)])


def many_writes(disk):
    """How many writes coming up makes: of pages, and one that drops a group cut off."""
    return len(page_writes(disk)) + (1 if len(whole_rows(disk)) < len(disk[2]) else 0)


def put_up(disk, many):
    """The disk behind the first so many writes of its coming up."""
    need_disk(disk)
    if not is_between(many, 0, many_writes(disk)):
        raise NoNumber("coming up makes no such number of writes")
    return written(disk, many)


def written(disk, many):
    """The disk behind so many writes, all of them where it is more."""
    writes = page_writes(disk)
    room, cut, rows, _ = disk
    pages = pages_there(disk)
    for number, mark, page in writes[:many]:
        pages[number] = (mark, page)
    behind = (room, cut, rows, tuple([(number, *pages[number]) for number in sorted(pages)]))
    return behind if many <= len(writes) else without_rest(behind)


def without_rest(disk):
    """The disk without the rows of a group cut off, and without marks of such rows."""
    room, cut, _, pages = disk
    whole = whole_rows(disk)
    last = cut + len(whole)
    return (room, cut, whole, tuple([(number, min(mark, last), page) for number, mark, page in pages]))


def cut_to(disk, number):
    """The disk without the rows up to this number, which all pages must have got."""
    need_disk(disk)
    if not can_reach(disk, number):
        raise NoNumber("a disk is cut from its cut to its last row's number")
    row = row_needed(disk, number)
    if row is not None:
        raise NoCut(row)
    return without_first(disk, number)


def can_reach(disk, number):
    """Whether it is a number from the disk's cut to its last row's."""
    return is_between(number, disk[1], last_number(disk))


def row_needed(disk, number):
    """The first row up to this number that is not of a whole group, or that its page has not got; or None."""
    many = len(whole_rows(disk))
    pages = pages_there(disk)
    for at, row in enumerate(disk[2][:number - disk[1]]):
        if at >= many or pages.get(row[1], (disk[1], None))[0] < row[0]:
            return row[0]
    return None


def without_first(disk, number):
    """The disk without the rows up to this number."""
    room, cut, rows, pages = disk
    return (room, number, rows[number - cut:], pages)
