"""A second table of latches, written from DOC.md [12] and [13] in another way: for each page one
list of all who asked for it, in order, each marked as soon as it holds.
"""


class LatchModel:
    def __init__(self):
        self.asked = {}

    def rows(self, page):
        return self.asked.setdefault(page, [])

    def holders(self, page):
        return sorted((hand, alone) for hand, alone, got in self.rows(page) if got)

    def queue(self, page):
        return [(hand, alone) for hand, alone, got in self.rows(page) if not got]

    def awaited(self, hand):
        found = [page for page in self.asked if any(one == hand for one, _ in self.queue(page))]
        return found[0] if found else None

    def held(self, hand):
        return sorted((page, alone) for page in self.asked for one, alone in self.holders(page) if one == hand)

    def settle(self, page):
        """Mark who holds now; tell those that did not."""
        fresh = []
        for row in self.rows(page):
            if row[2]:
                continue
            holding = [one for one in self.rows(page) if one[2]]
            if holding and (row[1] or any(one[1] for one in holding)):
                break
            row[2] = True
            fresh.append((row[0], row[1]))
        return fresh

    def take(self, hand, page, alone):
        self.rows(page).append([hand, alone, False])
        return (hand, alone) in self.settle(page)

    def let(self, hand, page):
        self.asked[page] = [row for row in self.rows(page) if row[0] != hand]
        return self.settle(page)

    def hands(self):
        return sorted({row[0] for rows in self.asked.values() for row in rows})

    def waits_for(self, hand):
        page = self.awaited(hand)
        if page is None:
            return set()
        alone = dict(self.queue(page))[hand]
        ahead = []
        for one, sole, got in self.rows(page):
            if one == hand:
                break
            ahead.append((one, sole))
        ahead += [(one, sole) for one, sole, got in self.rows(page) if got]
        return {one for one, sole in ahead if one != hand and (alone or sole)}

    def stuck(self):
        """Whether some hand comes back to itself by going from hands to those that they wait for."""
        return any(hand in self.reached(hand) for hand in self.hands())

    def reached(self, hand):
        seen, going = set(), list(self.waits_for(hand))
        while going:
            one = going.pop()
            if one not in seen:
                seen.add(one)
                going.extend(self.waits_for(one))
        return seen

    def is_ring(self, ring):
        if type(ring) is not tuple or len(ring) < 2 or len(set(ring)) < len(ring):
            return False
        return all(ring[at] in self.waits_for(ring[at - 1]) for at in range(len(ring)))
