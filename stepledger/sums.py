"""Sums: a tuple of words, parted into the sums that stand within it."""

# How many sums stand behind each of these words; behind a number or a name stands none.
PARTS = {"add": 2, "sub": 2, "more": 2, "cell": 1}


def sums_in(words):
    sums = []
    lacking = 0
    for word in words:
        if lacking == 0:
            sums.append([])
            lacking = 1
        sums[-1].append(word)
        lacking = lacking - 1 + PARTS.get(word, 0)
    # None tells that the last sum is not whole.
    return [tuple(one) for one in sums] if lacking == 0 else None


def needs_sums(word):
    return word in PARTS


def parts_of(words):
    return sums_in(words[1:])


def depth(words):
    parts = parts_of(words)
    # A second sum is worked while the first one's value is kept, so it alone goes deeper.
    return max([depth(part) + deeper for deeper, part in enumerate(parts)], default=1)
