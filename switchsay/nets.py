"""Nets of switches and ties: their hops, their sayings and their tables.

A letter at a switch is noted and does a step: its switch's rule is done with
it. Then it ends, or goes by a tie and is at a switch again.
"""

from switchsay.errors import NoNet
from switchsay.letters import letters_of, must_value
from switchsay.machines import Runs, ways_of
from switchsay.relations import letters_in, nothing, one_then_other, the_same
from switchsay.sayings import must_plain, must_saying
from switchsay.tables import table_of
from switchsay.trails import runs_from


def must_net(net):
    speech = net[0]
    if len(speech) < 2:
        raise NoNet("the speech of a net has a switch and a gate at least")
    if len(net[1]) != speech[0][1]:
        raise NoNet("a net has a rule for each switch")
    for rule in net[1]:
        must_saying(speech, rule)
        must_plain(rule)
    for tie in net[2]:
        must_tie(speech, tie)


def must_tie(speech, tie):
    for place, value in enumerate(tie):
        must_value(speech[place % 2][1], value)


def hops(net, letter, count):
    must_net(net)
    return runs_from(walk_by(net[0], step_of(net[0], net[1]), net[2]), letter, count)


def tables_of(net):
    must_net(net)
    return [table_of(net[0], rule) for rule in net[1]]


# A relation: what becomes of each letter by its own switch's rule.
def step_of(speech, rules):
    letters = letters_of(speech)
    relations = [ways_of(speech, letters, rule)[0][0] for rule in rules]
    return [relations[letter[0]][place] for place, letter in enumerate(letters)]


# In room 0 a letter isn't noted yet; in room 1 it was, at whichever switch.
def walk_by(speech, step, ties):
    letters = letters_of(speech)
    size = len(letters)
    onward = one_then_other(step, relation_of(letters, ties))
    return Runs(letters, [[nothing(size), the_same(size)], [step, onward]])


def relation_of(letters, ties):
    told = []
    for letter in letters:
        led = led_by(ties, letter)
        told.append(sum([1 << place for place, other in enumerate(letters) if other in led]))
    return told


def led_by(ties, letter):
    return [tie[2:] + letter[2:] for tie in ties if tie[:2] == letter[:2]]


def distinct(ties):
    return list(dict([(tie, True) for tie in ties]))


def saying_of(net):
    must_net(net)
    speech = net[0]
    step = ("then", ("note",), step_saying(speech, step_of(speech, net[1])))
    onward = any_of([tie_saying(speech, tie) for tie in distinct(net[2])])
    return ("then", step, ("again", ("then", onward, step)))


def any_of(sayings):
    if not sayings:
        return ("none",)
    told = sayings[-1]
    for saying in reversed(sayings[:-1]):
        told = ("either", saying, told)
    return told


def tie_saying(speech, tie):
    switch = speech[0][0]
    gate = speech[1][0]
    put = ("then", ("put", switch, tie[2]), ("put", gate, tie[3]))
    return ("then", ("is", switch, tie[0]), ("then", ("is", gate, tie[1]), put))


# The step is written anew from what becomes of each letter, because rules that
# were told may be of any size: so the saying's bounds hang on the speech alone.
def step_saying(speech, step):
    letters = letters_of(speech)
    changes = []
    for letter, mask in zip(letters, step):
        changes.extend([(end, letter) for end in letters_in(letters, mask)])
    return change_saying(speech, changes, turns_of(speech))


# A turn (count, side, place) parts changes (end, letter) by the value that the
# end (side 0) or the letter (side 1) has at that place. There are the fewest
# parts where small counts come first, and the greatest one comes last, as a
# test: then a net's saying has never more than 1996 parts.
def turns_of(speech):
    turns = []
    for place, pair in enumerate(speech):
        if pair[1] > 1:
            turns.extend([(pair[1], 0, place), (pair[1], 1, place)])
    return sorted(turns)


def change_saying(speech, changes, turns):
    if not changes:
        return ("none",)
    if not turns:
        return ("all",)
    turn = turns[0]
    field = speech[turn[2]][0]
    if len(turns) == 1:
        return values_test(field, turn[0], [change[1][turn[2]] for change in changes])
    told = []
    for value in range(turn[0]):
        some = [change for change in changes if change[turn[1]][turn[2]] == value]
        if some:
            told.append(with_turn(turn[1], field, value, change_saying(speech, some, turns[1:])))
    return any_of(told)


def with_turn(side, field, value, saying):
    if side:
        return ("then", ("is", field, value), saying)
    return ("then", saying, ("put", field, value))


# So where the field has one of the values; told by the others where these are
# fewer.
def values_test(field, count, values):
    others = [value for value in range(count) if value not in values]
    if not others:
        return ("all",)
    if len(values) > len(others):
        return ("not", any_of([("is", field, value) for value in others]))
    return any_of([("is", field, value) for value in values])
