"""Trails of sayings, and what sayings without notes do."""

from switchsay.errors import TooGreat
from switchsay.machines import Machine
from switchsay.sayings import must_plain, must_saying, must_test

MOST_TRAILS = 400


def trails(speech, saying, letter, count):
    return runs_from(Machine(speech, saying), letter, count)


# A beginning is a tuple (letters, rooms): the letters of a trail up to its
# last note, and the rooms in which the machine can be then. There is one for
# each such row of letters, so no trail is told twice.
def runs_from(machine, letter, count):
    ending = that_can_end(machine, count)
    told = []
    beginnings = [((letter,), (0,))]
    for left in range(count, -1, -1):
        told.extend(ended(machine, beginnings))
        beginnings = gone_on(machine, beginnings, ending[left - 1]) if left else []
        # Each beginning that is kept comes to a trail of its own, so there is
        # no need to follow them all before they are too many.
        if len(told) + len(beginnings) > MOST_TRAILS:
            raise TooGreat(MOST_TRAILS + 1, MOST_TRAILS)
    return told


def ended(machine, beginnings):
    told = []
    for begun, rooms in beginnings:
        told.extend([begun + (end,) for end in machine.ends_from(rooms, begun[-1])])
    return told


def gone_on(machine, beginnings, ending):
    longer = []
    for begun, rooms in beginnings:
        for letter, later in machine.goes_from(rooms, begun[-1]):
            kept = tuple([room for room in later if (room, letter) in ending])
            if kept:
                longer.append((begun + (letter,), kept))
    return longer


# For each count of notes below the one told: a dict of the pairs (room, letter)
# from which the machine can end with at most that many notes more.
def that_can_end(machine, count):
    pairs = []
    for room in range(machine.rooms()):
        pairs.extend([(room, letter) for letter in machine.letters])
    layer = dict([(pair, True) for pair in pairs if machine.ends(pair[0], pair[1])])
    layers = []
    for left in range(count):
        layers.append(layer)
        layer = one_note_ahead(machine, pairs, layer)
    return layers


# Whoever can end with fewer notes can with one more allowed, too.
def one_note_ahead(machine, pairs, layer):
    ahead = dict(layer)
    for pair in pairs:
        if any([(room, letter) in layer for letter, room in machine.goes(pair[0], pair[1])]):
            ahead[pair] = True
    return ahead


def done(speech, saying, letter):
    must_saying(speech, saying)
    must_plain(saying)
    return Machine(speech, saying).ends(0, letter)


def is_so(speech, test, letter):
    must_saying(speech, test)
    must_test(test)
    return Machine(speech, test).ends(0, letter) != []
