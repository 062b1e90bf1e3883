"""Sayings and speeches that several tests ask about, and what the document says of them, word by word."""

import functools
import itertools
import unittest

from switchsay.errors import NoField, NoTest, NoValue

SPEECH = (("switch", 2), ("gate", 3), ("tag", 4))
SMALL = (("a", 2), ("b", 2))

NINE = (
    ("none",),
    ("all",),
    ("is", "gate", 2),
    ("put", "tag", 3),
    ("not", ("is", "switch", 1)),
    ("either", ("all",), ("none",)),
    ("then", ("is", "tag", 0), ("put", "gate", 0)),
    ("again", ("put", "switch", 1)),
    ("note",),
)

HOLDING = ("not", "either", "then", "again")
NONE = ("none",)
ALL = ("all",)
NOTE = ("note",)
FAR = 10 ** 60 - 1
IN_NOT = ("then", NOTE, ("is", "colour", 9))
FAULTS = (
    (("is", "colour", FAR), NoField, "field", "colour"),
    (("put", "", 0), NoField, "field", ""),
    (("is", "gate", 3), NoValue, "value", 3),
    (("put", "tag", -FAR), NoValue, "value", -FAR),
    (("not", IN_NOT), NoTest, "saying", IN_NOT),
)


def held(saying):
    return saying[1:] if saying[0] in HOLDING else ()


def parts(saying):
    return 1 + sum(parts(one) for one in held(saying))


def depth(saying):
    return 1 + max([depth(one) for one in held(saying)], default=0)


def chain(sort, saying, times):
    for _ in range(times):
        saying = (sort, saying)
    return saying


def tree(sort, leaf, levels):
    saying = leaf
    for _ in range(levels):
        saying = (sort, saying, saying)
    return saying


def told_size(leaf, last, holder):
    """A saying of the size that a net's may have: 80 one within another,
    near 2000 parts; `last` stands once, at the right end, deep within."""
    saying = last
    for _ in range(60):
        saying = ("then", tree("either", leaf, 4), saying)
    return chain(holder, saying, 15)


def row(sort, *sayings):
    """All of them, the one behind the other, or any of them."""
    saying = sayings[-1]
    for one in sayings[-2::-1]:
        saying = (sort, one, saying)
    return saying


def then(*sayings):
    return row("then", *sayings)


def either(*sayings):
    return row("either", *sayings)


def letters(speech):
    return list(itertools.product(*[range(count) for _, count in speech]))


def anything(speech):
    """Makes each letter of every letter."""
    return then(*[either(*[("put", field, value) for value in range(count)]) for field, count in speech])


def just(speech, letter):
    """So of that letter alone."""
    return then(*[("is", field, value) for (field, _), value in zip(speech, letter)])


def made_to(speech, letter):
    """Makes that letter of every letter."""
    return then(*[("put", field, value) for (field, _), value in zip(speech, letter)])


@functools.lru_cache(maxsize=None)
def plain_trails(speech, saying, letter, count):
    """All trails with at most so many notes, as point 7 says them."""
    sort = saying[0]
    if sort in ("is", "put"):
        place = [field for field, _ in speech].index(saying[1])
        if sort == "is":
            return frozenset([(letter, letter)] if letter[place] == saying[2] else [])
        return frozenset([(letter, letter[:place] + (saying[2],) + letter[place + 1:])])
    if sort == "note":
        return frozenset([(letter, letter, letter)] if count else [])
    if sort == "not":
        return frozenset([] if plain_trails(speech, saying[1], letter, 0) else [(letter, letter)])
    if sort == "either":
        return plain_trails(speech, saying[1], letter, count) | plain_trails(speech, saying[2], letter, count)
    if sort == "then":
        return gone_on(speech, plain_trails(speech, saying[1], letter, count), saying[2], count)
    if sort == "none":
        return frozenset()
    told = frozenset([(letter, letter)])
    fresh = told if sort == "again" else frozenset()
    while fresh:
        fresh = gone_on(speech, fresh, saying[1], count) - told
        told |= fresh
    return told


def gone_on(speech, some, saying, count):
    return frozenset(
        first[:-1] + second[1:]
        for first in some for second in plain_trails(speech, saying, first[-1], count - len(first) + 2))


def in_order(some):
    return sorted(some, key=lambda trail: (len(trail), trail))


def all_trails(speech, saying, count):
    """From every letter."""
    return frozenset().union(*[plain_trails(speech, saying, letter, count) for letter in letters(speech)])


def letters_with(speech, test):
    """Of which the test is so."""
    return [letter for letter in letters(speech) if plain_trails(speech, test, letter, 0)]


def some_test(chance, speech, size):
    field, count = chance.choice(speech)
    if size < 2:
        value = chance.randrange(count)
        return chance.choice((NONE, ALL, ("is", field, value), ("is", field, value)))
    if size == 2 or chance.random() < 0.3:
        return ("not", some_test(chance, speech, size - 1))
    left = chance.randrange(1, size - 1)
    return (
        chance.choice(("either", "then")), some_test(chance, speech, left), some_test(chance, speech, size - 1 - left))


def some_saying(chance, speech, size, notes):
    """A saying of about so many parts with so many notes, as far as they find room in it."""
    if size < 2:
        field, count = chance.choice(speech)
        value = chance.randrange(count)
        return NOTE if notes else chance.choice((NONE, ALL, ("is", field, value), ("put", field, value)))
    if not notes and chance.random() < 0.2:
        return some_test(chance, speech, size)
    if size == 2 or chance.random() < 0.25:
        return ("again", some_saying(chance, speech, size - 1, notes))
    left = chance.randrange(1, size - 1)
    on_left = chance.randrange(notes + 1)
    return (
        chance.choice(("either", "then")),
        some_saying(chance, speech, left, on_left),
        some_saying(chance, speech, size - 1 - left, notes - on_left))


def plain_by_table(table, letter):
    """What the table does, as point 15 says it."""
    for match, deeds in table:
        if all(value in (None, own) for value, own in zip(match, letter)):
            made = [tuple(own if value is None else value for value, own in zip(deed, letter)) for deed in deeds]
            return sorted(set(made))
    return []


def plain_step(net, letter):
    """What becomes of a letter by the rule of its switch."""
    return sorted(trail[-1] for trail in plain_trails(net[0], net[1][letter[0]], letter, 0))


def led(net, letter):
    """Where its ties lead a letter."""
    return sorted({tie[2:] + letter[2:] for tie in net[2] if tie[:2] == letter[:2]})


def walked(net, letter, count, step):
    """All hops, as point 18 says them, where `step` tells what the switches do."""
    told, beginnings = [], [(letter, letter)]
    for _ in range(count):
        ended = [begun + (end,) for begun in beginnings for end in step(begun[-1])]
        told.extend(ended)
        beginnings = [hop[:-1] + (later,) for hop in ended for later in led(net, hop[-1])]
    return in_order(set(told))


def plain_hops(net, letter, count):
    return walked(net, letter, count, lambda one: plain_step(net, one))


def hops_by_tables(net, tables, letter, count):
    return walked(net, letter, count, lambda one: plain_by_table(tables[one[0]], one))


def onward(net, letter):
    return {later for end in plain_step(net, letter) for later in led(net, end)}


def how_many_hops(net, letter, count):
    ways = {letter: 1}
    total = 0
    for _ in range(count):
        total += sum(many * len(plain_step(net, one)) for one, many in ways.items())
        later = {}
        for one, many in ways.items():
            for other in onward(net, one):
                later[other] = later.get(other, 0) + many
        ways = later
    return total


def some_ties(chance, speech, many):
    return tuple(tuple(chance.randrange(speech[place % 2][1]) for place in range(4)) for _ in range(many))


def some_net(chance, speech, size, ties):
    """Rules of so many parts, and so many ties."""
    rules = tuple(some_saying(chance, speech, size, 0) for _ in range(speech[0][1]))
    return (speech, rules, some_ties(chance, speech, ties))


def lively_net(chance, speech, size, ties):
    """One of whose letters many come to a tie: each rule may also put a switch and a gate that a tie begins at."""
    speech, rules, ties = some_net(chance, speech, size - 8, ties)
    led_on = []
    for rule in rules:
        for tie in chance.sample(ties, min(len(ties), 1)):
            rule = either(rule, then(("put", speech[0][0], tie[0]), ("put", speech[1][0], tie[1]), ALL))
        led_on.append(rule)
    return (speech, tuple(led_on), ties)


def lists_in(told):
    """All lists that stand in it."""
    if not isinstance(told, (list, tuple)):
        return []
    inner = [one for part in told for one in lists_in(part)]
    return [told] + inner if isinstance(told, list) else inner


class RefusedTest(unittest.TestCase):
    def refused(self, ask, asked, error, name, value):
        with self.assertRaises(error) as caught:
            ask(*asked)
        self.assertIs(type(caught.exception), error)
        if name:
            self.assertEqual(getattr(caught.exception, name), value)
