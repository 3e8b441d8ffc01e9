"""A sound tree opened up: its pages by their numbers, to look things up and to change."""

from latchgrove.pages.kinds import half_of, parts_of


def kid_place(keys, key):
    """At which place the kid on the way to the key is."""
    return len([one for one in keys if one <= key])


def value_in(pairs, key):
    """The value that stands at the key among these pairs, or None."""
    for one, value in pairs:
        if one == key:
            return value
    return None


def mate_in(kids, number):
    """The neighbour on the left, for the first kid the one on the right."""
    at = kids.index(number)
    return kids[at - 1] if at > 0 else kids[1]


class Book:
    """The room with its half, the root and the pages of one tree."""

    def __init__(self, tree):
        self.room, self.root, numbered = tree
        self.half = half_of(self.room)
        self.pages = dict(numbered)

    def tree(self):
        """The tree as it is now."""
        return (self.room, self.root, tuple(sorted(self.pages.items())))

    def way(self, key):
        """The numbers of the pages from the root down to the leaf that the key belongs to."""
        numbers = [self.root]
        page = self.pages[self.root]
        while page[0] == "node":
            _, keys, kids = page
            numbers.append(kids[kid_place(keys, key)])
            page = self.pages[numbers[-1]]
        return tuple(numbers)

    def many_parts(self, number):
        """How many parts the page has."""
        return len(parts_of(self.pages[number]))

    def has_key(self, number, key):
        """Whether the page is a leaf with a pair of this key."""
        page = self.pages[number]
        return page[0] == "leaf" and value_in(page[1], key) is not None

    def elder(self, number):
        """The number of the node whose kid the page is; None for the root."""
        for other, page in self.pages.items():
            if page[0] == "node" and number in page[2]:
                return other
        return None

    def free_number(self):
        """The least number from 1 on that no page has."""
        number = 1
        while number in self.pages:
            number += 1
        return number
