"""A second tree of pages, written from DOC.md [5], [6] and [8] in another way: pages are
mutable lists that are gone down to from the root and mended on the way back up.
"""

import bisect

from tests.helpers import half_of


class PlainMap:
    """The plain map: a list of keys beside a list of values."""

    def __init__(self, pairs):
        self.keys, self.values = [key for key, _ in pairs], [value for _, value in pairs]

    def pairs(self):
        return tuple(zip(self.keys, self.values))

    def do(self, deed):
        at = bisect.bisect_left(self.keys, deed[1])
        if deed[0] in ("span", "walk"):
            return self.pairs()[at:bisect.bisect_left(self.keys, deed[2])]
        stands = at < len(self.keys) and self.keys[at] == deed[1]
        answer = self.values[at] if stands else None
        if deed[0] == "put" and stands:
            self.values[at] = deed[2]
        elif deed[0] == "put":
            self.keys.insert(at, deed[1])
            self.values.insert(at, deed[2])
        elif deed[0] == "drop" and stands:
            del self.keys[at], self.values[at]
        return answer


class Model:
    def __init__(self, tree):
        self.room, self.root, pages = tree
        self.half = half_of(self.room)
        self.pages = {}
        for number, (kind, first, second) in pages:
            if kind == "leaf":
                self.pages[number] = {"kind": kind, "pairs": dict(first), "next": second}
            else:
                self.pages[number] = {"kind": kind, "keys": list(first), "kids": list(second)}

    def tree(self):
        rows = []
        for number in sorted(self.pages):
            page = self.pages[number]
            if page["kind"] == "leaf":
                rows.append((number, ("leaf", tuple(sorted(page["pairs"].items())), page["next"])))
            else:
                rows.append((number, ("node", tuple(page["keys"]), tuple(page["kids"]))))
        return (self.room, self.root, tuple(rows))

    def parts(self, number):
        page = self.pages[number]
        return len(page["pairs"] if page["kind"] == "leaf" else page["kids"])

    def new(self):
        return next(number for number in range(1, len(self.pages) + 2) if number not in self.pages)

    def put(self, key, value):
        answer, more = self._put(self.root, key, value)
        if more is not None:
            old, number = self.root, self.new()
            self.pages[number] = {"kind": "node", "keys": [more[0]], "kids": [old, more[1]]}
            self.root = number
        return answer

    def _put(self, number, key, value):
        page = self.pages[number]
        if page["kind"] == "leaf":
            answer = page["pairs"].get(key)
            page["pairs"][key] = value
            if len(page["pairs"]) <= self.room:
                return answer, None
            right = self.new()
            going = sorted(page["pairs"].items())[-self.half:]
            for one, _ in going:
                del page["pairs"][one]
            self.pages[right] = {"kind": "leaf", "pairs": dict(going), "next": page["next"]}
            page["next"] = right
            return answer, (going[0][0], right)
        place = bisect.bisect_right(page["keys"], key)
        answer, more = self._put(page["kids"][place], key, value)
        if more is not None:
            page["keys"].insert(place, more[0])
            page["kids"].insert(place + 1, more[1])
        if len(page["kids"]) <= self.room:
            return answer, None
        right = self.new()
        self.pages[right] = {"kind": "node", "kids": page["kids"][-self.half:],
                             "keys": page["keys"][len(page["keys"]) - self.half + 1:]}
        up = page["keys"][-self.half]
        del page["kids"][-self.half:]
        del page["keys"][len(page["kids"]) - 1:]
        return answer, (up, right)

    def drop(self, key):
        answer = self._drop(self.root, key)
        page = self.pages[self.root]
        if page["kind"] == "node" and len(page["kids"]) == 1:
            del self.pages[self.root]
            self.root = page["kids"][0]
        return answer

    def _drop(self, number, key):
        page = self.pages[number]
        if page["kind"] == "leaf":
            return page["pairs"].pop(key, None)
        place = bisect.bisect_right(page["keys"], key)
        answer = self._drop(page["kids"][place], key)
        if self.parts(page["kids"][place]) < self.half:
            if place > 0:
                self._mend(page, place - 1, place)
            else:
                self._mend(page, 1, 0)
        return answer

    def _mend(self, elder, mate, poor):
        if self.parts(elder["kids"][mate]) > self.half:
            if mate < poor:
                self._lend_right(elder, mate)
            else:
                self._lend_left(elder, poor)
            return
        at = min(mate, poor)
        left, number = self.pages[elder["kids"][at]], elder["kids"].pop(at + 1)
        between, right = elder["keys"].pop(at), self.pages.pop(number)
        if left["kind"] == "leaf":
            left["pairs"].update(right["pairs"])
            left["next"] = right["next"]
        else:
            left["keys"] += [between] + right["keys"]
            left["kids"] += right["kids"]

    def _lend_right(self, elder, at):
        left, right = self.pages[elder["kids"][at]], self.pages[elder["kids"][at + 1]]
        if left["kind"] == "leaf":
            key = max(left["pairs"])
            right["pairs"][key] = left["pairs"].pop(key)
            elder["keys"][at] = key
        else:
            right["kids"].insert(0, left["kids"].pop())
            right["keys"].insert(0, elder["keys"][at])
            elder["keys"][at] = left["keys"].pop()

    def _lend_left(self, elder, at):
        left, right = self.pages[elder["kids"][at]], self.pages[elder["kids"][at + 1]]
        if left["kind"] == "leaf":
            key = min(right["pairs"])
            left["pairs"][key] = right["pairs"].pop(key)
            elder["keys"][at] = min(right["pairs"])
        else:
            left["kids"].append(right["kids"].pop(0))
            left["keys"].append(elder["keys"][at])
            elder["keys"][at] = right["keys"].pop(0)
