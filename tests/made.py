"""Sayings and speeches that several tests ask about, and what the document says of them, word by word."""

import functools
import itertools

SPEECH = (("switch", 2), ("gate", 3), ("tag", 4))
SMALL = (("a", 2), ("b", 2))

NINE = (
    ("none",),
    ("all",),
    ("is", "gate", 2),
    ("put", "tag", 3),
    ("not", ("is", "switch", 1)),
    ("either", ("all",), ("none",)),
    ("then", ("is", "tag", 0), ("put", "gate", 0)),
    ("again", ("put", "switch", 1)),
    ("note",),
)

HOLDING = ("not", "either", "then", "again")
NONE = ("none",)
ALL = ("all",)
NOTE = ("note",)


def held(saying):
    return saying[1:] if saying[0] in HOLDING else ()


def parts(saying):
    return 1 + sum(parts(one) for one in held(saying))


def depth(saying):
    return 1 + max([depth(one) for one in held(saying)], default=0)


def chain(sort, saying, times):
    for _ in range(times):
        saying = (sort, saying)
    return saying


def tree(sort, leaf, levels):
    saying = leaf
    for _ in range(levels):
        saying = (sort, saying, saying)
    return saying


def told_size(leaf, last, holder):
    """A saying of the size that a net's may have: 80 one within another,
    near 2000 parts; `last` stands once, at the right end, deep within."""
    saying = last
    for _ in range(60):
        saying = ("then", tree("either", leaf, 4), saying)
    return chain(holder, saying, 15)


def row(sort, *sayings):
    """All of them, the one behind the other, or any of them."""
    saying = sayings[-1]
    for one in sayings[-2::-1]:
        saying = (sort, one, saying)
    return saying


def then(*sayings):
    return row("then", *sayings)


def either(*sayings):
    return row("either", *sayings)


def letters(speech):
    return list(itertools.product(*[range(count) for _, count in speech]))


def anything(speech):
    """Makes each letter of every letter."""
    return then(*[either(*[("put", field, value) for value in range(count)]) for field, count in speech])


def just(speech, letter):
    """So of that letter alone."""
    return then(*[("is", field, value) for (field, _), value in zip(speech, letter)])


def made_to(speech, letter):
    """Makes that letter of every letter."""
    return then(*[("put", field, value) for (field, _), value in zip(speech, letter)])


@functools.lru_cache(maxsize=None)
def plain_trails(speech, saying, letter, count):
    """All trails with at most so many notes, as point 7 says them."""
    sort = saying[0]
    if sort in ("is", "put"):
        place = [field for field, _ in speech].index(saying[1])
        if sort == "is":
            return frozenset([(letter, letter)] if letter[place] == saying[2] else [])
        return frozenset([(letter, letter[:place] + (saying[2],) + letter[place + 1:])])
    if sort == "note":
        return frozenset([(letter, letter, letter)] if count else [])
    if sort == "not":
        return frozenset([] if plain_trails(speech, saying[1], letter, 0) else [(letter, letter)])
    if sort == "either":
        return plain_trails(speech, saying[1], letter, count) | plain_trails(speech, saying[2], letter, count)
    if sort == "then":
        return gone_on(speech, plain_trails(speech, saying[1], letter, count), saying[2], count)
    if sort == "none":
        return frozenset()
    told = frozenset([(letter, letter)])
    fresh = told if sort == "again" else frozenset()
    while fresh:
        fresh = gone_on(speech, fresh, saying[1], count) - told
        told |= fresh
    return told


def gone_on(speech, some, saying, count):
    return frozenset(
        first[:-1] + second[1:]
        for first in some for second in plain_trails(speech, saying, first[-1], count - len(first) + 2))


def in_order(some):
    return sorted(some, key=lambda trail: (len(trail), trail))


def all_trails(speech, saying, count):
    """From every letter."""
    return frozenset().union(*[plain_trails(speech, saying, letter, count) for letter in letters(speech)])


def some_test(chance, speech, size):
    field, count = chance.choice(speech)
    if size < 2:
        value = chance.randrange(count)
        return chance.choice((NONE, ALL, ("is", field, value), ("is", field, value)))
    if size == 2 or chance.random() < 0.3:
        return ("not", some_test(chance, speech, size - 1))
    left = chance.randrange(1, size - 1)
    return (
        chance.choice(("either", "then")), some_test(chance, speech, left), some_test(chance, speech, size - 1 - left))


def some_saying(chance, speech, size, notes):
    """A saying of about so many parts with so many notes, as far as they find room in it."""
    if size < 2:
        field, count = chance.choice(speech)
        value = chance.randrange(count)
        return NOTE if notes else chance.choice((NONE, ALL, ("is", field, value), ("put", field, value)))
    if not notes and chance.random() < 0.2:
        return some_test(chance, speech, size)
    if size == 2 or chance.random() < 0.25:
        return ("again", some_saying(chance, speech, size - 1, notes))
    left = chance.randrange(1, size - 1)
    on_left = chance.randrange(notes + 1)
    return (
        chance.choice(("either", "then")),
        some_saying(chance, speech, left, on_left),
        some_saying(chance, speech, size - 1 - left, notes - on_left))
