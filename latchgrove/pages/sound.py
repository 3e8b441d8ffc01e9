"""What makes pages a tree: the looks behind is_tree, and the levels that other looks go by."""

from latchgrove.pages.kinds import GREATEST, half_of, is_page, is_page_number, is_room, is_row, parts_of


def is_numbered_page(thing):
    """Whether it is a page with its number."""
    return is_row(thing, 2) and is_page_number(thing[0]) and is_page(thing[1])


def are_numbered_pages(thing):
    """Whether it is a tuple of pages whose numbers rise."""
    if not isinstance(thing, tuple) or not all([is_numbered_page(part) for part in thing]):
        return False
    return all([one[0] < other[0] for one, other in zip(thing, thing[1:])])


def levels_from(root, pages):
    """The pages' numbers level by level, each level from left to right.

    None where a page is missing, come to twice or not at all, or where leaves and
    nodes share a level: going down by levels, with each page once, ends in a ring, too.
    """
    seen = {}
    levels = []
    level = [root]
    while level:
        for number in level:
            if number not in pages or number in seen:
                return None
            seen[number] = True
        levels.append(level)
        nodes = [pages[number] for number in level if pages[number][0] == "node"]
        if nodes and len(nodes) < len(level):
            return None
        level = [kid for node in nodes for kid in node[2]]
    return levels if len(seen) == len(pages) else None


def sizes_fit(room, root, pages):
    """Whether each page has as many parts as a tree of this room lets it have."""
    for number, page in pages.items():
        least = half_of(room)
        if number == root:
            least = 0 if page[0] == "leaf" else 2
        if not least <= len(parts_of(page)) <= room:
            return False
    return True


def bounds_of(levels, pages):
    """For each page the least key beneath it, and the one that all keys are less than."""
    bounds = {levels[0][0]: (0, GREATEST + 1)}
    for level in levels[:-1]:
        for number in level:
            low, high = bounds[number]
            _, keys, kids = pages[number]
            for kid, least, above in zip(kids, (low, *keys), (*keys, high)):
                bounds[kid] = (least, above)
    return bounds


def keys_fit(levels, pages):
    """Whether all leaves' keys are within what the nodes above them say.

    The leaves are enough: none but a root is empty, so a node's key that is
    out of its own bounds leaves some leaf beneath it no key to have.
    """
    bounds = bounds_of(levels, pages)
    for number in levels[-1]:
        low, high = bounds[number]
        if not all([low <= pair[0] < high for pair in pages[number][1]]):
            return False
    return True


def nexts_fit(leaves, pages):
    """Whether each leaf's next is the leaf to its right, and the last one's is 0."""
    nexts = [pages[number][2] for number in leaves]
    return nexts == [*leaves[1:], 0]


def is_sound(thing):
    """Whether it is a tree, whatever it is."""
    if not is_row(thing, 3):
        return False
    room, root, numbered = thing
    if not is_room(room) or not is_page_number(root) or not are_numbered_pages(numbered):
        return False
    pages = dict(numbered)
    levels = levels_from(root, pages)
    if levels is None or not sizes_fit(room, root, pages):
        return False
    return keys_fit(levels, pages) and nexts_fit(levels[-1], pages)
