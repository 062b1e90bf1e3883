"""Ties that fail, and what that undoes."""

from switchsay.comes import letters_with, searched
from switchsay.nets import distinct, must_net, step_of, walk_by
from switchsay.sayings import must_tests


def without(net, ties):
    must_net(net)
    return (net[0], net[1], left_of(net[2], ties))


def left_of(ties, taken):
    return tuple([tie for tie in ties if tie not in taken])


def bears(net, first, last, count):
    must_net(net)
    speech = net[0]
    must_tests(speech, (first, last))
    step = step_of(speech, net[1])
    wanted = letters_with(speech, last)

    def shortest_hops(letters, ties):
        walk = walk_by(speech, step, ties)
        return [searched(walk, [letter], wanted)[0] for letter in letters]

    begun_with = letters_with(speech, first)
    coming = [letter for letter, hop in zip(begun_with, shortest_hops(begun_with, net[2])) if hop]
    rows = []
    for taken in choices_of(distinct(net[2]), count):
        told = shortest_hops(coming, left_of(net[2], taken))
        if None in told:
            return ("falls", taken, coming[told.index(None)])
        rows.append((taken, tuple(told)))
    return ("bears", rows)


# Each choice is followed by those that are one tie longer only once all of its
# size are there; within a size they come in the order of the ties' places.
def choices_of(ties, most):
    choices = [()]
    layer = [()]
    for size in range(most):
        layer = with_one_more(layer, len(ties))
        choices.extend(layer)
    return [tuple([ties[place] for place in places]) for places in choices]


def with_one_more(layer, size):
    longer = []
    for places in layer:
        begin = places[-1] + 1 if places else 0
        longer.extend([places + (place,) for place in range(begin, size)])
    return longer
