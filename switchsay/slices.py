"""Slices of nets, and nets laid together."""

from switchsay.comes import letters_with
from switchsay.nets import led_by, must_net
from switchsay.sayings import must_tests


def sliced(net, test):
    must_net(net)
    must_tests(net[0], (test,))
    return slice_of(net, test)


def slice_of(net, test):
    rules = [("then", test, ("then", rule, test)) for rule in net[1]]
    return (net[0], tuple(rules), net[2])


def held(net, test):
    must_net(net)
    must_tests(net[0], (test,))
    return led_out(net, test)


def led_out(net, test):
    letters = letters_with(net[0], test)
    for letter in letters:
        if any([later not in letters for later in led_by(net[2], letter)]):
            return letter
    return None


def laid(one, other):
    must_net(one)
    must_net(other)
    rules = [("either", rule, another) for rule, another in zip(one[1], other[1])]
    return (one[0], tuple(rules), one[2])


def kept(one, other, first, second):
    must_net(one)
    must_net(other)
    must_tests(one[0], (first, second))
    others = letters_with(one[0], second)
    both = [letter for letter in letters_with(one[0], first) if letter in others]
    if both:
        return ("both", both[0])
    for who, letter in enumerate((led_out(one, first), led_out(other, second))):
        if letter is not None:
            return ("out", who, letter)
    return ("kept", slice_of(one, first), slice_of(other, second))
