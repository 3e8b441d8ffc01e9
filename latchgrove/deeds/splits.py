"""Two neighbouring pages made one, and one page made two: what puts and drops share."""


def joined(left, right, key):
    """One page of both pages' parts; key is the one that stood between them in their elder."""
    if left[0] == "leaf":
        return ("leaf", left[1] + right[1], right[2])
    return ("node", (*left[1], key, *right[1]), left[2] + right[2])


def parted(page, cut, right):
    """The page's first parts, so many as cut says, and the others, which page right gets.

    Told are the left page, the key between both, the right page.
    """
    if page[0] == "leaf":
        _, pairs, behind = page
        return ("leaf", pairs[:cut], right), pairs[cut][0], ("leaf", pairs[cut:], behind)
    _, keys, kids = page
    return ("node", keys[:cut - 1], kids[:cut]), keys[cut - 1], ("node", keys[cut:], kids[cut:])
