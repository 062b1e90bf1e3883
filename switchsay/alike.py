"""Two sayings held against one another, with all their notes."""

from switchsay.letters import letters_of
from switchsay.machines import Machine, first_found


def alike(speech, one, other):
    told = searched(speech, one, other, ends_of_just_one)
    if told[0] is None:
        return ("alike", told[1])
    return ("apart", told[0][0], told[0][1])


def within(speech, one, other):
    told = searched(speech, one, other, ends_of_the_first_alone)
    if told[0] is None:
        return ("within", told[1])
    return ("beyond", told[0][0])


def common(speech, one, other):
    told = searched(speech, one, other, ends_of_both)
    if told[0] is None:
        return ("nothing", told[1])
    return ("common", told[0][0])


# What is looked for in a standing, as tuples (end, who): "who" is one of the
# two that can end so there.
def ends_of_just_one(ends, others):
    return ends_of_the_first_alone(ends, others) + [(end, 1) for end in others if end not in ends]


def ends_of_the_first_alone(ends, others):
    return [(end, 0) for end in ends if end not in others]


def ends_of_both(ends, others):
    return [(end, 0) for end in ends if end in others]


# Found are tuples (trail, who).
def searched(speech, one, other, looked_for):
    machine = Machine(speech, one)
    another = Machine(speech, other)

    def found_at(standing, begun):
        ends = machine.ends_from(standing[1], standing[0])
        others = another.ends_from(standing[2], standing[0])
        return [(begun + (end,), who) for end, who in looked_for(ends, others)]

    def following(standing):
        rooms = dict(machine.goes_from(standing[1], standing[0]))
        others = dict(another.goes_from(standing[2], standing[0]))
        letters = sorted(set(rooms) | set(others))
        return [(letter, (letter, rooms.get(letter, ()), others.get(letter, ()))) for letter in letters]

    beginnings = [((letter, (0,), (0,)), (letter,)) for letter in letters_of(speech)]
    return first_found(dict(beginnings), found_at, following)
