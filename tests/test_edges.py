"""Sayings as great as may be handed in, for everything that takes one, each in seconds."""

import random
import time
import unittest

from made import (
    ALL, NONE, NOTE, SPEECH, anything, chain, depth, either, in_order, letters, parts, plain_trails, some_saying,
    some_test, then, told_size, tree)
from switchsay.alike import alike, common, within
from switchsay.comes import comes
from switchsay.errors import NoField, TooGreat
from switchsay.machines import Machine
from switchsay.sayings import notes_in
from switchsay.trails import done, is_so, trails

FLAT = (("x", 6), ("y", 4))
A = (1, 2, 3)


class EdgesTest(unittest.TestCase):
    def setUp(self):
        self.begun = time.process_time()

    def tearDown(self):
        self.assertLess(time.process_time() - self.begun, 60)

    def ask_all(self, speech, saying, small):
        """The great saying makes the same trails as the small one."""
        machine = Machine(speech, saying)
        self.assertIn(machine.rooms(), range(1, notes_in(saying) + 2))
        for letter in letters(speech)[::5]:
            for count in range(5):
                asked = in_order(plain_trails(speech, small, letter, count))
                if len(asked) > 400:
                    with self.assertRaises(TooGreat):
                        trails(speech, saying, letter, count)
                else:
                    self.assertEqual(trails(speech, saying, letter, count), asked)
            ends = sorted(trail[-1] for trail in plain_trails(speech, small, letter, 0))
            self.assertEqual(machine.ends(0, letter), ends)
            if not notes_in(saying):
                self.assertEqual(done(speech, saying, letter), ends)
        for one, other in ((saying, small), (small, saying), (saying, saying)):
            self.assertEqual(alike(speech, one, other)[0], "alike")
            self.assertEqual(within(speech, one, other)[0], "within")
            self.assertEqual(common(speech, one, other), common(speech, small, small))
        field, count = speech[-1]
        for value in range(count):
            for first, last in ((("is", field, value), ("not", ("is", field, value))), (ALL, ("is", field, value))):
                told = comes(speech, saying, first, last)
                asked = comes(speech, small, first, last)
                self.assertEqual(told[0], asked[0])
                if told[0] == "comes":
                    self.assertEqual(told[1], asked[1])

    def ask_test(self, speech, test, small):
        for letter in letters(speech)[::3]:
            self.assertIs(is_so(speech, test, letter), bool(plain_trails(speech, small, letter, 0)))
            self.assertEqual(done(speech, test, letter), done(speech, small, letter))
        self.assertEqual(comes(speech, ALL, test, small), comes(speech, ALL, small, test))
        self.assertEqual(comes(speech, NOTE, test, ("not", test))[0], "never")

    def test_a_hundred_and_twenty_parts(self):
        chance = random.Random(53)
        for number in range(12):
            speech = (SPEECH, FLAT)[number % 2]
            saying = some_saying(chance, speech, 120, number % 4)
            self.assertEqual(parts(saying), 120)
            with self.subTest(speech=speech, saying=saying):
                self.ask_all(speech, saying, saying)
            test = some_test(chance, speech, 120)
            self.assertEqual(parts(test), 120)
            self.ask_test(speech, test, test)

    def test_a_hundred_and_twenty_parts_in_a_row(self):
        speech = FLAT
        rows = [then(("is", "x", value % 6), ("put", "y", value % 4), NOTE) for value in range(3)]
        saying = ("again", either(then(anything(speech), rows[0]), rows[1], rows[2], *[("put", "x", 1)] * 41))
        self.assertEqual((parts(saying), notes_in(saying)), (120, 3))
        self.ask_all(speech, saying, saying)

    def test_thirty_one_within_another(self):
        for last in (NOTE, ("put", "tag", 2), then(NOTE, ("put", "tag", 1)), either(ALL, NOTE)):
            deep = chain("again", last, 30 - depth(last))
            self.assertEqual(depth(deep), 30)
            self.ask_all(SPEECH, deep, ("again", last))
        for sort, other in (("then", ALL), ("either", NONE)):
            deep = then(NOTE, ("put", "tag", 0), NOTE)
            small = deep
            while depth(deep) < 30:
                deep = (sort, deep, other) if depth(deep) % 2 else (sort, other, deep)
            self.ask_all(SPEECH, deep, small)
        self.ask_test(SPEECH, chain("not", ("is", "tag", 1), 29), ("not", ("is", "tag", 1)))

    def test_the_either_of_two_that_were_told_of_nets(self):
        one = then(NOTE, ("put", "tag", 1), ("again", NOTE))
        other = either(("put", "tag", 2), then(("is", "gate", 1), NOTE, ("put", "gate", 2), NOTE))
        for leaf in (ALL, ("put", "switch", 1)):
            great = either(told_size(leaf, one, "again"), told_size(leaf, other, "again"))
            self.assertEqual(depth(great), 81)
            self.assertGreater(parts(great), 3800)
            self.assertEqual(notes_in(great), 4)
            small = either(("again", then(leaf, one)), ("again", then(leaf, other)))
            self.ask_all(SPEECH, great, small)

    def test_the_either_of_two_without_notes(self):
        one = either(("put", "tag", 1), ("put", "gate", 2))
        great = either(told_size(ALL, one, "again"), told_size(("put", "switch", 0), ("put", "tag", 3), "again"))
        self.assertGreater(parts(great), 3800)
        small = either(("again", one), ("again", then(("put", "switch", 0), ("put", "tag", 3))))
        self.ask_all(SPEECH, great, small)

    def test_a_great_test(self):
        one, other = ("is", "tag", 1), then(("is", "gate", 2), ("not", ("is", "switch", 0)))
        great = either(told_size(ALL, one, "not"), told_size(("is", "tag", 0), other, "not"))
        self.assertEqual(depth(great), 81)
        small = either(("not", one), ("not", then(("is", "tag", 0), other)))
        self.ask_test(SPEECH, great, small)

    def test_many_different_leaves(self):
        leaves = [("put", field, value) for field, count in SPEECH for value in range(count)]
        saying = then(NOTE, anything(SPEECH))
        for times in range(72):
            stirred = tree("either", either(leaves[times % 9], leaves[times // 3 % 9], ALL), 2)
            saying = ("then" if times % 3 else "either", ("again", stirred), saying)
        great = either(saying, then(ALL, saying))
        self.assertGreater(parts(great), 3500)
        self.assertEqual(depth(great), 81)
        for count in (1, 4):
            with self.assertRaises(TooGreat):
                trails(SPEECH, great, A, count)
        self.assertEqual(trails(SPEECH, great, A, 0), [(A, letter) for letter in letters(SPEECH)])
        for ask, good in ((alike, "alike"), (within, "within")):
            self.assertEqual(ask(SPEECH, great, saying)[0], good)
        self.assertEqual(common(SPEECH, great, saying), ("common", ((0, 0, 0), (0, 0, 0))))
        self.assertEqual(comes(SPEECH, great, ("is", "tag", 3), ("is", "tag", 0))[0], "comes")

    def test_a_fault_deep_within(self):
        great = either(told_size(ALL, NOTE, "again"), told_size(ALL, ("is", "colour", 0), "again"))
        for ask in (
                lambda: trails(SPEECH, great, A, 4), lambda: done(SPEECH, great, A), lambda: is_so(SPEECH, great, A),
                lambda: Machine(SPEECH, great), lambda: alike(SPEECH, ALL, great), lambda: within(SPEECH, great, ALL),
                lambda: common(SPEECH, ALL, great), lambda: comes(SPEECH, ALL, ALL, great)):
            with self.assertRaises(NoField):
                ask()

    def test_depth_does_not_hang_on_recursion(self):
        deep = chain("again", NOTE, 1500)
        self.assertEqual(trails(SPEECH, deep, A, 4), [(A,) * times for times in range(2, 7)])
        self.assertEqual(alike(SPEECH, deep, ("again", NOTE))[0], "alike")

    def test_many_standings(self):
        speech = FLAT
        steps = [
            then(("is", "x", value), ("put", "x", (value * 5 + 1) % 6), NOTE, either(ALL, ("put", "y", value % 4)))
            for value in range(3)]
        one = ("again", either(*steps, ("put", "x", 3)))
        other = ("again", either(*steps[::-1], ("put", "x", 3)))
        self.assertEqual(alike(speech, one, other)[0], "alike")
        self.assertEqual(within(speech, one, other)[0], "within")
        self.assertEqual(common(speech, then(one, ("put", "y", 0)), then(other, ("put", "y", 1)))[0], "nothing")


if __name__ == "__main__":
    unittest.main()
