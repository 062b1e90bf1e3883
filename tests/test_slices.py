import random
import unittest

from made import (
    ALL, NONE, SPEECH, anything, either, how_many_hops, in_order, just, led, letters, letters_with, lively_net, made_to,
    parts, plain_hops, plain_step, some_net, some_test, some_ties, then)
from switchsay.alike import alike, common, within
from switchsay.errors import TooGreat
from switchsay.faults import bears, without
from switchsay.nets import hops, must_net, saying_of, tables_of
from switchsay.slices import held, kept, laid, sliced
from switchsay.trails import trails

PAIR = (("s", 2), ("g", 2))
SPEECHES = (PAIR, SPEECH, (("s", 3), ("g", 2)), (("s", 2), ("g", 2), ("t", 2)), (("s", 1), ("g", 3), ("t", 2)))


def first_led_out(net, test):
    good = letters_with(net[0], test)
    out = [letter for letter in good if not set(led(net, letter)) <= set(good)]
    return out[0] if out else None


def by_a_held_test(chance, net):
    """A test that the net holds: so of some letters, and of all that ties lead them to."""
    good = set(letters_with(net[0], some_test(chance, net[0], 7)))
    grown = good | {later for letter in good for later in led(net, letter)}
    while grown != good:
        good, grown = grown, grown | {later for letter in grown for later in led(net, letter)}
    return either(NONE, *[just(net[0], letter) for letter in sorted(good)])


class SlicedTest(unittest.TestCase):
    def test_the_rules_as_they_are_written(self):
        chance = random.Random(13)
        for number in range(40):
            speech = SPEECHES[number % len(SPEECHES)]
            net, test = some_net(chance, speech, 9, number % 7), some_test(chance, speech, 1 + number % 12)
            rules = tuple(("then", test, ("then", rule, test)) for rule in net[1])
            self.assertEqual(sliced(net, test), (speech, rules, net[2]))
        tie = (0, 1, 1, 0)
        self.assertEqual(sliced((PAIR, (ALL, ALL), (tie, tie)), ALL)[2], (tie, tie))

    def test_by_a_test_that_is_no_letter_of_none(self):
        net = (PAIR, (("put", "g", 1), ALL), ((0, 1, 1, 0),))
        test = ("is", "g", 0)
        self.assertEqual(
            sliced(net, test), (PAIR, (then(test, ("put", "g", 1), test), then(test, ALL, test)), net[2]))
        self.assertEqual(hops(sliced(net, test), (0, 0), 3), [])
        self.assertEqual(hops(sliced(net, test), (1, 0), 3), [((1, 0),) * 3])

    def test_its_hops(self):
        chance = random.Random(14)
        for number in range(40):
            speech = SPEECHES[number % len(SPEECHES)]
            net, test = lively_net(chance, speech, 18, number % 7), some_test(chance, speech, 5)
            told, good = sliced(net, test), letters_with(speech, test)
            self.assertIsNone(must_net(told))
            for letter in letters(speech)[::4]:
                if how_many_hops(net, letter, 3) <= 400:
                    asked = [hop for hop in plain_hops(net, letter, 3) if self.keeps_to(net, good, hop)]
                    self.assertEqual(hops(told, letter, 3), asked)

    def keeps_to(self, net, good, hop):
        """Each letter that it has at a switch, and some one of those that it leaves a switch as, are good."""
        if not set(hop[1:]) <= set(good):
            return False
        steps = zip(hop[1:-1], hop[2:-1])
        return all(
            any(end in good and later in led(net, end) for end in plain_step(net, letter)) for letter, later in steps)


class HeldTest(unittest.TestCase):
    def test_held_and_led_out(self):
        net = (PAIR, (ALL, NONE), ((0, 1, 1, 0), (1, 1, 1, 1)))
        for test, told in (
                (ALL, None), (NONE, None), (("is", "s", 1), None), (("is", "s", 0), (0, 1)), (("is", "g", 0), None),
                (("is", "g", 1), (0, 1)), (("not", just(PAIR, (1, 0))), (0, 1)), (just(PAIR, (0, 0)), None)):
            self.assertEqual(held(net, test), told)

    def test_the_letter_ahead_of_the_tie_and_the_first_in_order(self):
        net = (SPEECH, (NONE, NONE), ((1, 2, 0, 0), (1, 0, 0, 1), (0, 2, 1, 0)))
        self.assertEqual(held(net, then(("is", "switch", 1), ("is", "tag", 2))), (1, 0, 2))
        self.assertEqual(held(net, then(("is", "switch", 1), ("is", "gate", 2))), (1, 2, 0))
        self.assertEqual(held(net, ("not", just(SPEECH, (0, 0, 3)))), (1, 2, 3))
        self.assertEqual(held(net, ("not", ("is", "switch", 1))), (0, 2, 0))
        self.assertIsNone(held(net, ("is", "tag", 1)))

    def test_whatever_the_rules_do(self):
        ties = ((0, 1, 1, 0),)
        for rule in (NONE, ALL, anything(PAIR), made_to(PAIR, (0, 0))):
            self.assertEqual(held((PAIR, (rule, rule), ties), ("is", "s", 0)), (0, 1))
            self.assertIsNone(held((PAIR, (rule, rule), ties), ("is", "s", 1)))

    def test_no_ties_and_ties_that_stand_twice(self):
        chance = random.Random(15)
        for number in range(40):
            speech = SPEECHES[number % len(SPEECHES)]
            test = some_test(chance, speech, 7)
            rules = (ALL,) * speech[0][1]
            self.assertIsNone(held((speech, rules, ()), test))
            ties = some_ties(chance, speech, 3)
            self.assertEqual(held((speech, rules, ties), test), held((speech, rules, ties[::-1] + ties), test))

    def test_some_of_all(self):
        chance = random.Random(16)
        seen = set()
        for number in range(300):
            speech = SPEECHES[number % len(SPEECHES)]
            net, test = some_net(chance, speech, 3, number % 7), some_test(chance, speech, 1 + number % 12)
            told = held(net, test)
            self.assertEqual(told, first_led_out(net, test))
            seen.add(told is None)
            self.assertIsNone(held(net, by_a_held_test(chance, net)))
        self.assertEqual(seen, {True, False})


class LaidTest(unittest.TestCase):
    def test_the_rules_as_they_are_written(self):
        chance = random.Random(17)
        for number in range(30):
            speech = SPEECHES[number % len(SPEECHES)]
            one = some_net(chance, speech, 9, number % 7)
            other = (speech, some_net(chance, speech, 9, 0)[1], one[2])
            rules = tuple(("either", rule, another) for rule, another in zip(one[1], other[1]))
            self.assertEqual(laid(one, other), (speech, rules, one[2]))
        ties = ((0, 1, 1, 0), (0, 1, 1, 0))
        one, other = (PAIR, (ALL, NONE), ties), (PAIR, (("put", "g", 0), ("is", "s", 0)), ties)
        rules = (either(ALL, ("put", "g", 0)), either(NONE, ("is", "s", 0)))
        self.assertEqual(laid(one, other), (PAIR, rules, ties))
        self.assertNotEqual(laid(one, other), laid(other, one))
        self.assertEqual(laid(one, one), (PAIR, (either(ALL, ALL), either(NONE, NONE)), ties))

    def test_its_hops_at_one_switch_are_those_of_both(self):
        one = (PAIR, (("put", "g", 0), NONE), ())
        other = (PAIR, (("put", "s", 1), ALL), ())
        for letter in letters(PAIR):
            joined = set(plain_hops(one, letter, 1)) | set(plain_hops(other, letter, 1))
            self.assertEqual(hops(laid(one, other), letter, 1), sorted(joined))


class KeptTest(unittest.TestCase):
    ties = ((0, 1, 1, 0), (1, 1, 0, 0))
    one = (SPEECH, (ALL, ("put", "gate", 1)), ties)
    other = (SPEECH, (anything(SPEECH), NONE), ties)

    def test_kept(self):
        for first, second in ((("is", "tag", 0), ("is", "tag", 3)), (NONE, ALL), (ALL, NONE), (NONE, NONE)):
            told = kept(self.one, self.other, first, second)
            self.assertEqual(told, ("kept", sliced(self.one, first), sliced(self.other, second)))
            rules = tuple(then(second, rule, second) for rule in self.other[1])
            self.assertEqual(told[2], (SPEECH, rules, self.ties))

    def test_both_ahead_of_out(self):
        tests = (("is", "gate", 1), ("not", ("is", "tag", 0)))
        self.assertEqual(kept(self.one, self.other, *tests), ("both", (0, 1, 1)))
        self.assertEqual(kept(self.one, self.other, *tests[::-1]), ("both", (0, 1, 1)))
        self.assertEqual(kept(self.one, self.other, ALL, ALL), ("both", (0, 0, 0)))
        self.assertEqual(kept(self.one, self.other, just(SPEECH, (1, 2, 3)), ALL), ("both", (1, 2, 3)))

    def test_out_of_the_first_net_ahead_of_the_second(self):
        out, later = then(("is", "gate", 1), ("is", "tag", 2)), then(("is", "gate", 1), ("is", "tag", 1))
        good = ("is", "tag", 0)
        self.assertEqual(kept(self.one, self.other, out, good), ("out", 0, (0, 1, 2)))
        self.assertEqual(kept(self.one, self.other, good, out), ("out", 1, (0, 1, 2)))
        self.assertEqual(kept(self.one, self.other, out, later), ("out", 0, (0, 1, 2)))
        self.assertEqual(kept(self.one, self.other, later, out), ("out", 0, (0, 1, 1)))
        told = kept(self.one, self.other, good, just(SPEECH, (1, 1, 3)))
        self.assertEqual(told, ("out", 1, (1, 1, 3)))
        self.assertIs(type(told[1]), int)

    def pair_of_nets(self, chance, number):
        speech = SPEECHES[number % len(SPEECHES)]
        one = lively_net(chance, speech, 16, number % 7)
        return one, (speech, lively_net(chance, speech, 16, number % 7)[1], one[2])

    def check_kept(self, one, other, told):
        """The hops of the two laid together are those of the one and those of the other, none of both."""
        speech = one[0]
        joined = laid(told[1], told[2])
        for letter in letters(speech)[::3]:
            parted = [set(plain_hops(net, letter, 3)) for net in told[1:]]
            self.assertFalse(parted[0] & parted[1])
            if len(parted[0]) + len(parted[1]) > 400:
                with self.assertRaises(TooGreat):
                    hops(joined, letter, 3)
            else:
                asked = in_order(parted[0] | parted[1])
                self.assertEqual(hops(joined, letter, 3), asked)
        first, second = saying_of(told[1]), saying_of(told[2])
        self.assertEqual(common(speech, first, second)[0], "nothing")
        self.assertEqual(alike(speech, saying_of(joined), either(first, second))[0], "alike")
        for net, told_net in ((one, told[1]), (other, told[2])):
            self.assertEqual(within(speech, saying_of(told_net), saying_of(net))[0], "within")

    def test_some_of_all(self):
        chance = random.Random(18)
        seen = set()
        for number in range(150):
            one, other = self.pair_of_nets(chance, number)
            first = by_a_held_test(chance, one) if number % 3 else some_test(chance, one[0], 7)
            second = by_a_held_test(chance, other) if number % 2 else some_test(chance, one[0], 7)
            if number % 5:
                second = then(second, ("not", first))
            told = kept(one, other, first, second)
            self.check_told(one, other, first, second, told)
            seen.add(told[:2] if told[0] == "out" else told[0])
        self.assertEqual(seen, {"kept", "both", ("out", 0), ("out", 1)})

    def check_told(self, one, other, first, second, told):
        both = sorted(set(letters_with(one[0], first)) & set(letters_with(one[0], second)))
        out = [first_led_out(one, first), first_led_out(other, second)]
        if both:
            self.assertEqual(told, ("both", both[0]))
        elif out != [None, None]:
            who = 0 if out[0] else 1
            self.assertEqual(told, ("out", who, out[who]))
        else:
            self.assertEqual(told, ("kept", sliced(one, first), sliced(other, second)))
            self.check_kept(one, other, told)


class HandedInAgainTest(unittest.TestCase):
    def check(self, net):
        """Whatever may be asked of a net may be asked of one that was told."""
        speech = net[0]
        self.assertIsNone(must_net(net))
        saying = saying_of(net)
        self.assertLessEqual(parts(saying), 2000)
        for letter in letters(speech)[::4]:
            if how_many_hops(net, letter, 3) <= 400:
                asked = plain_hops(net, letter, 3)
                self.assertEqual(hops(net, letter, 3), asked)
                self.assertEqual(trails(speech, saying, letter, 3), asked)
        self.assertEqual(len(tables_of(net)), speech[0][1])
        test = ("is", speech[1][0], 0)
        self.assertEqual(held(net, test), first_led_out(net, test))
        self.assertEqual(sliced(net, test)[1][0], then(test, net[1][0], test))
        self.assertIn(kept(net, net, test, ("not", test))[0], ("kept", "out"))
        self.assertEqual(without(net, net[2][:1])[:2], net[:2])
        self.assertIn(bears(net, ALL, test, 2)[0], ("bears", "falls"))

    def test_three_times_one_within_another(self):
        chance = random.Random(19)
        for speech in SPEECHES:
            ties = some_ties(chance, speech, 5)
            nets = [(speech, lively_net(chance, speech, 16, 5)[1], ties) for _ in range(8)]
            while len(nets) > 1:
                test = some_test(chance, speech, 5)
                nets = [laid(sliced(one, test), other) for one, other in zip(nets[::2], nets[1::2])]
                for net in nets:
                    self.check(net)
        self.assertGreater(sum(parts(rule) for rule in nets[0][1]), 150)

    def test_slices_of_slices(self):
        chance = random.Random(20)
        net = lively_net(chance, SPEECH, 24, 6)
        tests = [("not", ("is", "tag", value)) for value in range(3)]
        told = net
        for test in tests:
            told = sliced(told, test)
            self.check(told)
        at_once = sliced(net, then(*tests))
        for one, other in ((told, at_once), (at_once, told)):
            self.assertEqual(alike(SPEECH, saying_of(one), saying_of(other))[0], "alike")


if __name__ == "__main__":
    unittest.main()
