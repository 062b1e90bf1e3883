"""What comes where."""

from switchsay.letters import letters_of
from switchsay.machines import Machine, first_found
from switchsay.sayings import must_saying, must_tests


def comes(speech, saying, first, last):
    must_saying(speech, saying)
    must_tests(speech, (first, last))
    told = searched(Machine(speech, saying), letters_with(speech, first), letters_with(speech, last))
    if told[0] is None:
        return ("never", told[1])
    return ("comes", told[0])


# The test's machine is made once for all letters.
def letters_with(speech, test):
    machine = Machine(speech, test)
    return [letter for letter in letters_of(speech) if machine.ends(0, letter)]


def searched(machine, begun_with, wanted):
    def found_at(pair, begun):
        return [begun + (end,) for end in machine.ends(pair[0], pair[1]) if end in wanted]

    def following(pair):
        return [(letter, (room, letter)) for letter, room in machine.goes(pair[0], pair[1])]

    beginnings = [((0, letter), (letter,)) for letter in begun_with]
    return first_found(dict(beginnings), found_at, following)
