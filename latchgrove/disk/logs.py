"""Rows of the log, by which trees become others, and disks, which keep rows and pages."""

from latchgrove.deeds.rows import changes_between, pages_with_head, unlike
from latchgrove.errors import NoDisk
from latchgrove.pages.kinds import LAST_PAGE, are_rising, is_between, is_page, is_page_number, is_room, is_row, is_whole
from latchgrove.pages.needs import need_tree

HEAD = 0


def rows_for(one, other, *, number=1):
    """The group of rows by which the one tree becomes the other, numbered from this number on."""
    return numbered(unlike(one, other), number)


def group_of(one, other, number):
    """The same of two sound trees of one room."""
    return numbered(changes_between(one, other), number)


def numbered(changes, number):
    """The changes as a group of rows, numbered from this number on."""
    last = len(changes) - 1
    return tuple([(number + at, *change, at == last) for at, change in enumerate(changes)])


def is_head(thing):
    """Whether it is what the head says: which page the root is."""
    return is_row(thing, 2) and thing[0] == "head" and is_page_number(thing[1])


def fits_number(number, thing):
    """Whether it is what may be there of this number: at 0 the head, else a page or None."""
    if not is_between(number, 0, LAST_PAGE):
        return False
    if number == HEAD:
        return is_head(thing)
    return thing is None or is_page(thing)


def is_log_row(thing):
    """Whether it is a row of the log by itself."""
    if not is_row(thing, 5):
        return False
    number, page, before, after, last = thing
    if not is_whole(number) or not isinstance(last, bool):
        return False
    return fits_number(page, before) and fits_number(page, after) and before != after


def are_log_rows(thing, cut):
    """Whether these are rows numbered from behind the cut on, the pages of each group rising."""
    if not isinstance(thing, tuple) or not all([is_log_row(row) for row in thing]):
        return False
    if not all([row[0] == cut + 1 + at for at, row in enumerate(thing)]):
        return False
    return all([one[4] or one[1] < other[1] for one, other in zip(thing, thing[1:])])


def is_disk_page(thing, last):
    """Whether it is (number, mark, page or None) by itself, the mark no greater than the last row's number."""
    return is_row(thing, 3) and fits_number(thing[0], thing[2]) and is_between(thing[1], 0, last)


def are_disk_pages(thing, last):
    """Whether these are pages of a disk, their numbers rising."""
    if not isinstance(thing, tuple) or not all([is_disk_page(part, last) for part in thing]):
        return False
    return are_rising([part[0] for part in thing])


def is_disk(thing):
    """Whether it is a disk, whatever it is."""
    if not is_row(thing, 4):
        return False
    room, cut, rows, pages = thing
    if not is_room(room) or not is_whole(cut) or cut < 0 or not are_log_rows(rows, cut):
        return False
    return are_disk_pages(pages, last_number(thing))


def need_disk(thing):
    """Refuse what is no disk."""
    if not is_disk(thing):
        raise NoDisk("a disk is (room, cut, rows, pages)")


def last_number(disk):
    """The number of the disk's last row; its cut where it has none."""
    return disk[1] + len(disk[2])


def fresh_disk(tree):
    """The disk of the head and all pages of the tree, and of no rows."""
    need_tree(tree)
    return fresh_of(tree)


def fresh_of(tree):
    """The same of a sound tree."""
    pages = pages_with_head(tree)
    return (tree[0], 0, (), tuple([(number, 0, pages[number]) for number in sorted(pages)]))
