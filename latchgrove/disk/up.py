"""Coming up: what the pages of a disk become by its rows."""

from latchgrove.disk.logs import HEAD, need_disk
from latchgrove.errors import NoDisk
from latchgrove.pages.sound import is_sound


def pages_there(disk):
    """(mark, page) of each page that stands on the disk, by its number."""
    return {number: (mark, page) for number, mark, page in disk[3]}


def whole_rows(disk):
    """The rows of whole groups; those of a group cut off are behind them."""
    rows = disk[2]
    many = len(rows)
    while many > 0 and not rows[many - 1][4]:
        many -= 1
    return rows[:many]


def pages_up(disk):
    """(mark, page) of each page as it comes up, by its number; what isn't told isn't there."""
    _, cut, rows, _ = disk
    pages = pages_there(disk)
    nothing = (cut, None)
    whole = whole_rows(disk)
    lasts = {}
    for number, page, _, after, _ in whole:
        if pages.get(page, nothing)[0] < number:
            pages[page] = (number, after)
        lasts[page] = number
    for number, page, before, _, _ in reversed(rows[len(whole):]):
        if pages.get(page, nothing)[0] >= number:
            pages[page] = (lasts.get(page, cut), before)
    return pages


def up(disk):
    """The tree that comes up from the disk."""
    need_disk(disk)
    pages = pages_up(disk)
    _, head = pages.pop(HEAD, (0, None))
    numbered = [(number, pages[number][1]) for number in sorted(pages)]
    root = None if head is None else head[1]
    tree = (disk[0], root, tuple([row for row in numbered if row[1] is not None]))
    if not is_sound(tree):
        raise NoDisk("no tree comes up from this disk")
    return tree
