"""The order of refusals, for everything that takes sayings."""

import unittest

from made import ALL, FAULTS, IN_NOT, NOTE, SPEECH, RefusedTest, anything, either, then
from switchsay.alike import alike, common, within
from switchsay.comes import comes
from switchsay.errors import NoPlain, NoTest, TooGreat
from switchsay.machines import Machine
from switchsay.trails import done, is_so, trails

A = (1, 2, 3)
GOOD = then(("not", ("is", "gate", 0)), either(("is", "tag", 3), ("is", "tag", 1)))


def within_others(fault):
    """The fault by itself and deep within a saying, behind parts that are well and ahead of faults."""
    return (
        fault,
        then(GOOD, ("again", either(NOTE, fault))),
        either(("again", fault), then(("is", "later", 0), ("not", NOTE))),
    )


def asks():
    """How many sayings each takes, and how it is asked with them."""
    return (
        (1, lambda one: trails(SPEECH, one, A, 2)),
        (1, lambda one: done(SPEECH, one, A)),
        (1, lambda one: is_so(SPEECH, one, A)),
        (1, lambda one: Machine(SPEECH, one).goes(0, A) or Machine(SPEECH, one).ends(0, A)),
        (2, lambda one, other: alike(SPEECH, one, other)),
        (2, lambda one, other: within(SPEECH, one, other)),
        (2, lambda one, other: common(SPEECH, one, other)),
        (3, lambda one, first, last: comes(SPEECH, one, first, last)),
    )


class EachPlaceTest(RefusedTest):
    def test_a_fault_in_each_place_alone(self):
        for many, ask in asks():
            ahead = ask(*[GOOD] * many)
            for place in range(many):
                for fault, error, name, value in FAULTS:
                    for saying in within_others(fault):
                        sayings = [GOOD] * many
                        sayings[place] = saying
                        self.refused(ask, sayings, error, name, value)
                        self.assertEqual(ask(*[GOOD] * many), ahead)

    def test_faults_in_two_places(self):
        for many, ask in asks():
            for place in range(many):
                for later in range(place + 1, many):
                    for fault, error, name, value in FAULTS:
                        for another in FAULTS:
                            sayings = [GOOD] * many
                            sayings[place] = fault
                            sayings[later] = another[0]
                            self.refused(ask, sayings, error, name, value)

    def test_the_field_is_the_thing_handed_in(self):
        for many, ask in asks():
            for place in range(many):
                sayings = [GOOD] * many
                sayings[place] = then(GOOD, ("not", IN_NOT))
                with self.assertRaises(NoTest) as caught:
                    ask(*sayings)
                self.assertIs(caught.exception.saying, IN_NOT)

    def test_a_not_that_holds_no_test_is_refused_by_what_stands_in_it(self):
        for ask in (lambda one: is_so(SPEECH, one, A), lambda one: comes(SPEECH, ALL, one, ALL),
                    lambda one: comes(SPEECH, ALL, ALL, one)):
            self.refused(ask, (("not", NOTE),), NoTest, "saying", NOTE)

    def test_what_must_saying_refuses_ahead_of_too_great_and_no_plain(self):
        many = ("again", either(anything(SPEECH), NOTE))
        for fault, error, name, value in FAULTS:
            self.refused(lambda one: trails(SPEECH, one, A, 4), (then(many, fault),), error, name, value)
            self.refused(lambda one: done(SPEECH, one, A), (then(many, fault),), error, name, value)
        with self.assertRaises(TooGreat):
            trails(SPEECH, then(many, ALL), A, 4)
        with self.assertRaises(NoPlain):
            done(SPEECH, then(many, ALL), A)


class ComesRefusalsTest(RefusedTest):
    no_tests = (NOTE, ("put", "gate", 0), ("again", ALL), then(ALL, ("again", ("is", "tag", 3))), either(NOTE, ALL))

    def ask(self, saying, first, last):
        return comes(SPEECH, saying, first, last)

    def test_no_test_of_from_then_of_to(self):
        ahead = comes(SPEECH, GOOD, GOOD, GOOD)
        for one in self.no_tests:
            self.refused(self.ask, (GOOD, one, GOOD), NoTest, "saying", one)
            self.refused(self.ask, (GOOD, GOOD, one), NoTest, "saying", one)
            for other in self.no_tests:
                self.refused(self.ask, (NOTE, one, other), NoTest, "saying", one)
            self.assertEqual(comes(SPEECH, GOOD, GOOD, GOOD), ahead)

    def test_what_must_saying_refuses_ahead_of_no_test(self):
        for fault, error, name, value in FAULTS:
            for one in self.no_tests:
                self.refused(self.ask, (fault, one, one), error, name, value)
                self.refused(self.ask, (GOOD, one, fault), error, name, value)
                self.refused(self.ask, (GOOD, fault, one), error, name, value)
                self.refused(self.ask, (GOOD, then(one, fault), one), error, name, value)

    def test_the_saying_itself_need_be_no_test(self):
        for saying in self.no_tests:
            self.assertIn(comes(SPEECH, saying, GOOD, GOOD)[0], ("comes", "never"))


if __name__ == "__main__":
    unittest.main()
