"""The plain map: what deeds do to pairs that no pages hold, in a dict from keys to values."""


def pairs_within(pairs, low, high):
    """Those of the pairs that are in the stretch."""
    return tuple([pair for pair in pairs if low <= pair[0] < high])


def done_to(plain, deed):
    """Do one deed to the dict; tell its answer."""
    word, key = deed[0], deed[1]
    if word in ("span", "walk"):
        return pairs_within(sorted(plain.items()), key, deed[2])
    answer = plain.get(key)
    if word == "put":
        plain[key] = deed[2]
    elif word == "drop" and answer is not None:
        del plain[key]
    return answer
