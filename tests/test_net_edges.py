"""Nets as great as may be handed in, for everything that takes one, each in seconds."""

import functools
import itertools
import random
import time
import unittest

from made import (
    ALL, NONE, NOTE, SPEECH, anything, chain, depth, either, hops_by_tables, how_many_hops, in_order, just, letters,
    letters_with, lively_net, made_to, parts, plain_hops, some_net, some_test, then)
from switchsay.alike import alike, common, within
from switchsay.comes import comes
from switchsay.errors import NoField, NoPlain, TooGreat
from switchsay.faults import bears, without
from switchsay.machines import Machine
from switchsay.nets import hops, must_net, saying_of, tables_of
from switchsay.sayings import must_saying, notes_in
from switchsay.slices import held, kept, laid, sliced
from switchsay.trails import trails

# Just 24 letters in each, with as many switches as can be, or as few.
GREAT = (
    (("s", 6), ("g", 4)), (("s", 4), ("g", 6)), (("s", 6), ("g", 2), ("t", 2)), (("s", 6), ("g", 1), ("t", 4)),
    (("s", 1), ("g", 6), ("t", 4)), (("s", 2), ("g", 3), ("t", 4)), (("s", 3), ("g", 2), ("t", 4)))


def each_target(speech, sources):
    """A net for each letter, laid together: it is made of every letter of which that letter's test is so."""
    ties = tuple((switch, gate) * 2 for switch, gate in list(itertools.product(
        range(speech[0][1]), range(speech[1][1])))[:6])
    nets = [
        (speech, (then(test, made_to(speech, letter)),) * speech[0][1], ties)
        for letter, test in zip(letters(speech), sources)]
    return functools.reduce(laid, nets)


class GreatNetsTest(unittest.TestCase):
    def setUp(self):
        self.begun = time.process_time()

    def tearDown(self):
        self.assertLess(time.process_time() - self.begun, 60)

    def ask_all(self, net):
        speech = net[0]
        self.assertEqual(len(letters(speech)), 24)
        self.assertIsNone(must_net(net))
        saying = self.ask_saying(net)
        tables = tables_of(net)
        self.assertEqual(len(tables), speech[0][1])
        for letter in letters(speech)[::7]:
            for count in (1, 3, 5):
                self.ask_hops(net, saying, tables, letter, count)
        field = speech[1][0]
        for first, last in ((ALL, ALL), (("is", field, 0), ("not", ("is", field, 0)))):
            told = bears(net, first, last, 2)
            self.assertIn(told[0], ("bears", "falls"))
            self.assertEqual(bears(net, first, last, 0)[0], "bears")
            self.assertIn(kept(net, net, first, last)[0], ("kept", "both", "out"))
            self.assertEqual(len(sliced(net, first)[1]), speech[0][1])
        self.assertIsNone(held(net, ALL))
        self.assertEqual(len(laid(net, net)[1]), speech[0][1])
        self.assertEqual(hops(without(net, net[2]), letters(speech)[3], 5), plain_hops(net, letters(speech)[3], 1))

    def ask_saying(self, net):
        saying = saying_of(net)
        self.assertIsNone(must_saying(net[0], saying))
        self.assertLessEqual(notes_in(saying), 2)
        self.assertLessEqual(parts(saying), 2000)
        self.assertLessEqual(depth(saying), 80)
        return saying

    def ask_hops(self, net, saying, tables, letter, count):
        if how_many_hops(net, letter, count) > 400:
            with self.assertRaises(TooGreat):
                hops(net, letter, count)
            with self.assertRaises(TooGreat):
                trails(net[0], saying, letter, count)
        else:
            told = hops(net, letter, count)
            self.assertEqual(told, plain_hops(net, letter, count))
            self.assertEqual(told, trails(net[0], saying, letter, count))
            self.assertEqual(told, hops_by_tables(net, tables, letter, count))

    def test_rules_of_twenty_four_parts(self):
        chance = random.Random(26)
        for speech in GREAT:
            for make in (some_net, lively_net):
                net = make(chance, speech, 24, 6)
                with self.subTest(net=net):
                    self.ask_all(net)

    def test_tests_of_twelve_parts(self):
        chance = random.Random(27)
        for speech in GREAT:
            net = lively_net(chance, speech, 24, 6)
            first, last = (some_test(chance, speech, 12) for _ in range(2))
            self.assertEqual((parts(first), parts(last)), (12, 12))
            self.ask_all(sliced(net, first))
            self.assertIn(bears(net, first, last, 2)[0], ("bears", "falls"))
            self.assertIn(kept(net, net, first, last)[0], ("kept", "both", "out"))
            self.assertIn(held(net, first), letters_with(speech, first) + [None])

    def test_everything_comes_of_everything(self):
        for speech in GREAT:
            net = each_target(speech, [ALL] * 24)
            self.ask_all(net)
            self.assertEqual(bears(net, ALL, ALL, 2)[0], "bears")
            self.assertEqual(len(bears(net, ALL, ALL, 2)[1]), [1, 2, 4, 7, 11, 16, 22][len(net[2])])

    def some_of_each(self, chance, speech, most, many):
        """Each letter comes of so many of the values of the field with the most, for whatever values of the others."""
        field, count = most
        rest = tuple(pair for pair in speech if pair != most)
        choices = list(itertools.combinations(range(count), many))
        sources = []
        for _ in range(24):
            told = [
                then(just(rest, letter), either(*[("is", field, value) for value in chance.choice(choices)]))
                for letter in letters(rest)]
            sources.append(either(*told))
        return each_target(speech, sources)

    def test_rules_whose_sayings_are_as_long_as_can_be(self):
        chance = random.Random(28)
        for speech in GREAT[::2]:
            most = max(speech, key=lambda pair: pair[1])
            net = self.some_of_each(chance, speech, most, most[1] // 2)
            self.assertGreater(parts(net[1][0]), 800)
            self.ask_all(net)
            self.assertGreater(parts(saying_of(net)), 1500)
            for many in range(1, most[1]):
                self.ask_saying(self.some_of_each(chance, speech, most, many))

    def test_slices_laid_together_three_times_one_within_another(self):
        chance = random.Random(29)
        for speech in GREAT:
            first = lively_net(chance, speech, 24, 6)
            nets = [first] + [(speech, lively_net(chance, speech, 24, 6)[1], first[2]) for _ in range(7)]
            while len(nets) > 1:
                tests = [some_test(chance, speech, 12) for _ in range(2)]
                nets = [
                    laid(sliced(one, tests[0]), sliced(other, tests[1])) for one, other in zip(nets[::2], nets[1::2])]
            self.assertGreater(sum(parts(rule) for rule in nets[0][1]), 330)
            self.ask_all(nets[0])

    def test_sayings_of_great_nets_handed_in(self):
        chance = random.Random(30)
        for speech in GREAT:
            one, other = (lively_net(chance, speech, 24, 6) for _ in range(2))
            first, second = saying_of(one), saying_of(other)
            both = either(first, second)
            machine = Machine(speech, both)
            self.assertLessEqual(machine.rooms(), 5)
            self.assertEqual(within(speech, first, both)[0], "within")
            self.assertEqual(alike(speech, both, either(second, first))[0], "alike")
            self.assertIn(common(speech, first, second)[0], ("common", "nothing"))
            self.assertIn(comes(speech, both, ("is", "g", 0), ("not", ("is", "g", 0)))[0], ("comes", "never"))
            for letter in letters(speech)[::9]:
                joined = set(plain_hops(one, letter, 2)) | set(plain_hops(other, letter, 2))
                if len(joined) <= 400:
                    self.assertEqual(trails(speech, both, letter, 2), in_order(joined))

    def test_depth_does_not_hang_on_recursion(self):
        net = (SPEECH, (("put", "gate", 2), either(ALL, ("put", "tag", 0))), ((0, 2, 1, 0), (1, 0, 0, 0)))
        deep = net
        for _ in range(350):
            deep = sliced(laid(deep, (SPEECH, (NONE, NONE), net[2])), ALL)
        self.ask_saying(deep)
        for letter in letters(SPEECH)[::5]:
            self.assertEqual(hops(deep, letter, 5), hops(net, letter, 5))
        self.assertEqual(tables_of(deep), tables_of(net))
        self.assertEqual(bears(deep, ALL, ALL, 2), bears(net, ALL, ALL, 2))
        self.assertIsNone(held(deep, ALL))

    def test_a_fault_deep_within(self):
        for fault, error in ((("is", "colour", 0), NoField), (NOTE, NoPlain)):
            rule = then(anything(SPEECH), chain("again", either(ALL, fault), 15))
            net = (SPEECH, (ALL, rule), ((0, 2, 1, 0),) * 6)
            for ask in (
                    must_net, saying_of, tables_of, lambda one: hops(one, (0, 0, 0), 5),
                    lambda one: bears(one, ALL, ALL, 2), lambda one: laid(one, one)):
                with self.assertRaises(error):
                    ask(net)


if __name__ == "__main__":
    unittest.main()
