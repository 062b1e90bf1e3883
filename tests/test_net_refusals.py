"""The order of refusals, for everything that takes nets."""

import unittest

from made import ALL, FAR, FAULTS, NOTE, SPEECH, RefusedTest, anything, either, then
from switchsay.errors import NoField, NoNet, NoPlain, NoTest, NoValue, TooGreat
from switchsay.faults import bears, without
from switchsay.nets import hops, must_net, saying_of, tables_of
from switchsay.slices import held, kept, laid, sliced

A = (1, 2, 3)
TIES = ((0, 2, 1, 0), (1, 1, 0, 0))
RULES = (("put", "gate", 2), either(ALL, then(("is", "gate", 1), ("put", "tag", 2))))
NET = (SPEECH, RULES, TIES)
TEST = ("is", "tag", 2)
OTHER = ("is", "tag", 1)
NO_TESTS = (NOTE, ("put", "gate", 0), ("again", ALL), then(ALL, ("again", ("is", "tag", 3))), either(NOTE, ALL))
NOTED = then(ALL, ("again", NOTE))
NET_FAULTS = (
    (((("switch", 2),), RULES, TIES), NoNet, None, None),
    ((SPEECH, RULES[:1], TIES), NoNet, None, None),
    ((SPEECH, RULES + (NOTE,), ((9, 9, 9, 9),)), NoNet, None, None),
    ((SPEECH, (ALL, ("is", "colour", 0)), ((9, 9, 9, 9),)), NoField, "field", "colour"),
    ((SPEECH, (("put", "gate", -FAR), ("is", "later", 0)), TIES), NoValue, "value", -FAR),
    ((SPEECH, (("not", NOTED), NOTE), TIES), NoTest, "saying", NOTED),
    ((SPEECH, (NOTED, ("is", "later", 0)), TIES), NoPlain, "saying", NOTED),
    ((SPEECH, RULES, TIES + ((0, 3, 2, 0),)), NoValue, "value", 3),
    ((SPEECH, RULES, ((0, 0, FAR, -1), (9, 9, 9, 9))), NoValue, "value", FAR),
)


def asks():
    """How many nets and how many tests each takes, and how it is asked with them."""
    return (
        (1, 0, must_net),
        (1, 0, saying_of),
        (1, 0, lambda net: hops(net, A, 5)),
        (1, 0, tables_of),
        (1, 1, sliced),
        (1, 1, held),
        (2, 0, laid),
        (2, 2, kept),
        (1, 0, lambda net: without(net, TIES)),
        (1, 2, lambda net, first, last: bears(net, first, last, 2)),
    )


def good(nets, tests):
    return [NET] * nets + [TEST, OTHER][:tests]


class NetRefusalsTest(RefusedTest):
    def test_a_net_in_each_place_alone(self):
        for nets, tests, ask in asks():
            ahead = ask(*good(nets, tests))
            for place in range(nets):
                for fault, error, name, value in NET_FAULTS:
                    asked = good(nets, tests)
                    asked[place] = fault
                    self.refused(ask, asked, error, name, value)
                    self.assertEqual(ask(*good(nets, tests)), ahead)

    def test_a_test_in_each_place_alone(self):
        for nets, tests, ask in asks():
            ahead = ask(*good(nets, tests))
            for place in range(nets, nets + tests):
                for fault, error, name, value in FAULTS:
                    for test in (fault, then(TEST, fault), either(NOTE, ("again", fault))):
                        asked = good(nets, tests)
                        asked[place] = test
                        self.refused(ask, asked, error, name, value)
                        self.assertEqual(ask(*good(nets, tests)), ahead)
                for test in NO_TESTS:
                    asked = good(nets, tests)
                    asked[place] = test
                    with self.assertRaises(NoTest) as caught:
                        ask(*asked)
                    self.assertIs(caught.exception.saying, test)
                    self.assertEqual(ask(*good(nets, tests)), ahead)

    def test_of_two_nets_the_first_one(self):
        for nets, tests, ask in asks():
            if nets == 2:
                for fault, error, name, value in NET_FAULTS:
                    for other in NET_FAULTS:
                        self.refused(ask, [fault, other[0]] + good(0, tests), error, name, value)

    def test_nets_ahead_of_tests(self):
        bad_tests = [fault[0] for fault in FAULTS] + list(NO_TESTS)
        for nets, tests, ask in asks():
            for place in range(nets):
                for later in range(nets, nets + tests):
                    for fault, error, name, value in NET_FAULTS:
                        for test in bad_tests:
                            asked = good(nets, tests)
                            asked[place] = fault
                            asked[later] = test
                            self.refused(ask, asked, error, name, value)

    def test_of_two_tests_the_first_one(self):
        for nets, tests, ask in asks():
            if tests == 2:
                for fault, error, name, value in FAULTS:
                    for other in FAULTS:
                        self.refused(ask, good(nets, 0) + [fault, other[0]], error, name, value)
                for one in NO_TESTS:
                    for other in NO_TESTS:
                        self.refused(ask, good(nets, 0) + [one, other], NoTest, "saying", one)

    def test_what_must_saying_refuses_ahead_of_no_test(self):
        for nets, tests, ask in asks():
            for one in NO_TESTS:
                for fault, error, name, value in FAULTS:
                    if tests == 2:
                        self.refused(ask, good(nets, 0) + [one, fault], error, name, value)
                        self.refused(ask, good(nets, 0) + [fault, one], error, name, value)
                    if tests:
                        asked = good(nets, tests)
                        asked[-1] = then(one, fault)
                        self.refused(ask, asked, error, name, value)

    def test_tests_ahead_of_what_is_told(self):
        """A test is refused, too, where what the others say would do by itself."""
        for test, error in ((("is", "no", 0), NoField), (NOTE, NoTest)):
            for first, second in ((ALL, test), (test, ALL)):
                with self.assertRaises(error):
                    kept(NET, NET, first, second)
                with self.assertRaises(error):
                    bears(NET, first, second, 0)
        for ask in (sliced, held):
            with self.assertRaises(NoField):
                ask((SPEECH, RULES, ()), ("not", ("is", "no", 0)))

    def test_too_great_comes_last(self):
        many = anything(SPEECH)
        ties = ((0, 0, 0, 0), (0, 1, 1, 1))
        with self.assertRaises(TooGreat):
            hops((SPEECH, (many, many), ties), A, 5)
        for net, error in (
                ((SPEECH, (many, then(many, NOTE)), ties), NoPlain),
                ((SPEECH, (many, then(many, ("is", "tag", 4))), ties), NoValue),
                ((SPEECH, (many, many), ties + ((0, 0, 0, 3),)), NoValue),
                ((SPEECH, (many, many, many), ties), NoNet)):
            with self.assertRaises(error):
                hops(net, A, 5)


if __name__ == "__main__":
    unittest.main()
