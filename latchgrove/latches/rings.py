"""Rings in what points from one number to others."""


def ring_in(nexts):
    """Numbers each of which has the next among its own, the last the first; None where none do.

    nexts is a dict: for each number the list of those that it points to.
    """
    left = {one: others for one, others in nexts.items()}
    ends = [None]
    while ends:
        # What points to nothing that is left is in no ring.
        ends = [one for one, others in left.items() if not any([other in left for other in others])]
        left = {one: others for one, others in left.items() if one not in ends}
    if not left:
        return None
    row = [min(list(left))]
    while True:
        after = min([other for other in left[row[-1]] if other in left])
        if after in row:
            return tuple(row[row.index(after):])
        row.append(after)
