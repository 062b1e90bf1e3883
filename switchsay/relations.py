"""Relations: what may become of each letter of a speech.

A relation is a list with a mask for each letter, in order. A mask is a whole
number with a bit for each letter, the lowest for the first one. Relations are
shared between the sayings that are made of them, so none is ever changed.
"""


def nothing(size):
    return [0] * size


def the_same(size):
    return [1 << place for place in range(size)]


def either_of(one, other):
    return [mask | another for mask, another in zip(one, other)]


# Letters often come to the same few masks, so each mask is followed once.
def one_then_other(first, second):
    known = {}
    for mask in first:
        if mask not in known:
            known[mask] = reached_from(mask, second)
    return [known[mask] for mask in first]


def reached_from(mask, relation):
    reached = 0
    while mask:
        lowest = mask & -mask
        reached |= relation[lowest.bit_length() - 1]
        mask ^= lowest
    return reached


# Behind each step are reached all that can be with only letters up to the
# middle one on the way, so behind the last one all that can be at all.
def again_and_again(relation):
    rows = either_of(the_same(len(relation)), relation)
    for middle in range(len(rows)):
        through = rows[middle]
        rows = [row | through if (row >> middle) & 1 else row for row in rows]
    return rows


# Kept are the letters of which nothing comes.
def where_nothing(relation):
    return [0 if mask else 1 << place for place, mask in enumerate(relation)]


def letters_in(letters, mask):
    return [letter for place, letter in enumerate(letters) if (mask >> place) & 1]
