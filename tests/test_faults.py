import itertools
import random
import unittest

from made import (
    ALL, NONE, SPEECH, anything, either, just, led, letters, letters_with, lists_in, lively_net, made_to, plain_step,
    some_net, some_test, then)
from switchsay.comes import comes
from switchsay.faults import bears, without
from switchsay.nets import hops, must_net, saying_of
from switchsay.slices import laid, sliced

PAIR = (("s", 2), ("g", 2))
LINE = (("s", 4), ("g", 3))
SPEECHES = (PAIR, LINE, SPEECH, (("s", 2), ("g", 2), ("t", 2)), (("s", 1), ("g", 3), ("t", 2)))


def first_of_the_shortest(net, letter, wanted):
    """By all rows of notes of one length at once, as far as a row without doubles can be."""
    rows = {letter: (letter, letter)}
    for _ in letters(net[0]):
        found = [row + (end,) for one, row in rows.items() for end in plain_step(net, one) if end in wanted]
        if found:
            return min(found)
        later = {}
        for one, row in rows.items():
            for end in plain_step(net, one):
                for other in led(net, end):
                    later[other] = min(later.get(other, row + (other,)), row + (other,))
        rows = later
    return None


def told_of(net, first, last, count):
    """As points 23 and 24 say it."""
    speech, rules, ties = net
    wanted = letters_with(speech, last)
    begun = [letter for letter in letters_with(speech, first) if first_of_the_shortest(net, letter, wanted)]
    places = [place for place, tie in enumerate(ties) if tie not in ties[:place]]
    rows = []
    for many in range(count + 1):
        for some in sorted(itertools.combinations(places, many)):
            taken = tuple(ties[place] for place in some)
            left = (speech, rules, tuple(tie for tie in ties if tie not in taken))
            found = [first_of_the_shortest(left, letter, wanted) for letter in begun]
            for letter, hop in zip(begun, found):
                if hop is None:
                    return ("falls", taken, letter)
            rows.append((taken, tuple(found)))
    return ("bears", rows)


class WithoutTest(unittest.TestCase):
    one, two, three = (0, 1, 1, 0), (1, 1, 0, 0), (0, 0, 0, 1)
    rules = (ALL, ("put", "g", 1))

    def net(self, *ties):
        return (PAIR, self.rules, ties)

    def test_the_others_as_they_stand(self):
        net = self.net(self.three, self.one, self.two)
        self.assertEqual(without(net, (self.one,)), self.net(self.three, self.two))
        self.assertEqual(without(net, (self.two, self.three)), self.net(self.one))
        self.assertEqual(without(net, (self.three, self.two)), self.net(self.one))
        self.assertEqual(without(net, (self.two, self.one, self.three)), self.net())
        self.assertEqual(without(net, ()), net)

    def test_those_that_stand_twice(self):
        net = self.net(self.one, self.two, self.one, self.three, self.two)
        self.assertEqual(without(net, (self.one,)), self.net(self.two, self.three, self.two))
        self.assertEqual(without(net, (self.three,)), self.net(self.one, self.two, self.one, self.two))
        self.assertEqual(without(net, (self.two, self.two)), self.net(self.one, self.one, self.three))
        self.assertEqual(without(net, ()), net)

    def test_ties_that_it_does_not_have_are_passed_by(self):
        net = self.net(self.one, self.two)
        for ties in ((self.three,), ((1, 0, 0, 1),), ((9, 9, 9, 9), (-1, 10 ** 59, 0, 0)), (self.two[::-1],)):
            self.assertEqual(without(net, ties), net)
            self.assertEqual(without(net, ties + (self.one,)), self.net(self.two))
        self.assertEqual(without(self.net(), (self.one, self.two)), self.net())

    def test_what_was_told_is_a_net(self):
        chance = random.Random(21)
        for number in range(40):
            net = some_net(chance, SPEECHES[number % len(SPEECHES)], 8, number % 7)
            told = without(net, net[2][1::2])
            self.assertIsNone(must_net(told))
            self.assertEqual(told[:2], net[:2])
            self.assertEqual(without(told, net[2]), (net[0], net[1], ()))


class BearsTest(unittest.TestCase):
    def check(self, net, first, last, count):
        told = bears(net, first, last, count)
        self.assertEqual(told, told_of(net, first, last, count))
        self.assertIs(type(told), tuple)
        if told[0] == "bears":
            self.assertIs(type(told[1]), list)
            self.assertEqual(len(lists_in(told)), 1)
            for row in told[1]:
                self.assertEqual([type(one) for one in row], [tuple, tuple])
        return told

    # From switch 0 to switch 3 by switch 1, by switch 2, or straight.
    ties = ((0, 0, 1, 0), (0, 0, 2, 0), (1, 0, 3, 0), (2, 0, 3, 0), (0, 0, 3, 0))
    way = (LINE, (ALL,) * 4, ties)
    first, last = just(LINE, (0, 0)), ("is", "s", 3)

    def test_a_way_that_bears_any_two(self):
        a, b, c, d = ((switch, 0) for switch in range(4))
        kind, rows = self.check(self.way, self.first, self.last, 2)
        self.assertEqual((kind, len(rows)), ("bears", 1 + 5 + 10))
        self.assertEqual(rows[0], ((), ((a, a, d, d),)))
        self.assertEqual([row[0] for row in rows[1:6]], [(tie,) for tie in self.ties])
        self.assertEqual(rows[5], ((self.ties[4],), ((a, a, b, d, d),)))
        self.assertEqual([row[0] for row in rows[6:]], list(itertools.combinations(self.ties, 2)))
        self.assertEqual(dict(rows)[(self.ties[0], self.ties[4])], ((a, a, c, d, d),))
        self.assertEqual(dict(rows)[(self.ties[1], self.ties[4])], ((a, a, b, d, d),))

    def test_the_count(self):
        rows = self.check(self.way, self.first, self.last, 2)[1]
        self.assertEqual(self.check(self.way, self.first, self.last, 0), ("bears", rows[:1]))
        self.assertEqual(self.check(self.way, self.first, self.last, 1), ("bears", rows[:6]))

    def test_falls_with_the_first_choice_and_the_first_letter(self):
        two_ways = without(self.way, self.ties[4:])
        self.assertEqual(self.check(two_ways, self.first, self.last, 1)[0], "bears")
        self.assertEqual(
            self.check(two_ways, self.first, self.last, 2), ("falls", (self.ties[0], self.ties[1]), (0, 0)))
        self.assertEqual(self.check(two_ways, ALL, self.last, 1), ("falls", (self.ties[2],), (1, 0)))
        self.assertEqual(self.check(two_ways, ("is", "s", 2), self.last, 2), ("falls", (self.ties[3],), (2, 0)))
        self.assertEqual(self.check(two_ways, ("is", "s", 2), self.last, 0)[0], "bears")
        turned = (LINE, self.way[1], self.ties[3::-1])
        self.assertEqual(
            self.check(turned, self.first, self.last, 2), ("falls", (self.ties[3], self.ties[2]), (0, 0)))
        self.assertEqual(self.check(turned, ALL, self.last, 1), ("falls", (self.ties[3],), (2, 0)))

    def test_letters_that_never_come_there_do_not_count(self):
        only = (LINE, (ALL, ALL, NONE, ALL), ((0, 0, 1, 0), (0, 0, 2, 0)))
        self.assertEqual(self.check(only, ALL, ("is", "s", 2), 2), ("bears", [
            ((), ()), (((0, 0, 1, 0),), ()), (((0, 0, 2, 0),), ()), (((0, 0, 1, 0), (0, 0, 2, 0)), ())]))
        told = self.check(only, ALL, ("is", "s", 0), 2)
        self.assertEqual(told[1][0][1], tuple(((0, gate),) * 3 for gate in range(3)))

    def test_from_or_to_that_is_so_of_no_letter(self):
        for first, last in ((NONE, ALL), (ALL, NONE), (NONE, NONE), (("not", ALL), self.last)):
            kind, rows = self.check(self.way, first, last, 1)
            self.assertEqual((kind, rows), ("bears", [((), ())] + [((tie,), ()) for tie in self.ties]))

    def test_no_ties(self):
        net = (LINE, (ALL, ("put", "s", 3), NONE, ALL), ())
        for count in range(3):
            told = self.check(net, ALL, self.last, count)
            hops_of = tuple([((1, gate), (1, gate), (3, gate)) for gate in range(3)] + [
                ((3, gate),) * 3 for gate in range(3)])
            self.assertEqual(told, ("bears", [((), hops_of)]))

    def test_doubles_but_the_first_are_left_out(self):
        up, down, ring = (0, 0, 1, 0), (0, 1, 1, 0), (1, 0, 1, 0)
        rules = (either(ALL, ("put", "g", 1)), ALL)
        net = (PAIR, rules, (up, ring, up, down, ring, up))
        kind, rows = self.check(net, just(PAIR, (0, 0)), ("is", "s", 1), 1)
        self.assertEqual((kind, [row[0] for row in rows]), ("bears", [(), (up,), (ring,), (down,)]))
        self.assertEqual(self.check(net, ALL, ("is", "s", 1), 1), ("falls", (down,), (0, 1)))
        self.assertEqual(
            self.check(net, just(PAIR, (0, 0)), ("is", "s", 1), 2), ("falls", (up, down), (0, 0)))
        self.assertEqual([row[0] for row in self.check(net, just(PAIR, (1, 0)), ALL, 2)[1]], [
            (), (up,), (ring,), (down,), (up, ring), (up, down), (ring, down)])

    def test_the_first_in_order_of_the_shortest(self):
        a = (0, 0, 0)
        speech = (("s", 3), ("g", 2), ("t", 3))
        net = (speech, (either(("put", "t", 2), ("put", "t", 1)), ALL, ALL), ((0, 0, 2, 0), (0, 0, 1, 0)))
        told = self.check(net, just(speech, a), ("not", ("is", "s", 0)), 1)
        self.assertEqual(told[1], [
            ((), ((a, a, (1, 0, 1), (1, 0, 1)),)), ((net[2][0],), ((a, a, (1, 0, 1), (1, 0, 1)),)),
            ((net[2][1],), ((a, a, (2, 0, 1), (2, 0, 1)),))])
        self.assertEqual(
            self.check(net, just(speech, a), ALL, 0), ("bears", [((), ((a, a, (0, 0, 1)),))]))

    def test_some_of_all(self):
        chance = random.Random(22)
        seen = set()
        for number in range(200):
            speech = SPEECHES[number % len(SPEECHES)]
            make = (some_net, lively_net)[number % 2]
            net = make(chance, speech, 18, number % 7)
            first, last = some_test(chance, speech, number % 5 + 1), some_test(chance, speech, 3)
            with self.subTest(net=net, first=first, last=last):
                told = self.check(net, first, last, number % 3)
                seen.add((told[0], number % 3))
                if told[0] == "bears":
                    self.check_hops(net, last, told[1])
        self.assertEqual(seen, {("bears", 0), ("bears", 1), ("bears", 2), ("falls", 1), ("falls", 2)})

    def check_hops(self, net, last, rows):
        """They are what comes says of the saying of the net without the ties."""
        for taken, found in rows[::4]:
            saying = saying_of(without(net, taken))
            for hop in found[::3]:
                self.assertEqual(comes(net[0], saying, just(net[0], hop[0]), last), ("comes", hop))

    def test_long_ways(self):
        speech = (("s", 6), ("g", 4))
        ties = tuple((switch, 0, (switch + 1) % 6, 0) for switch in range(6))
        net = (speech, (ALL,) * 6, ties)
        told = self.check(net, ("is", "g", 0), just(speech, (5, 0)), 0)
        self.assertEqual(len(told[1][0][1][0]), 8)
        self.assertEqual(
            self.check(net, ("is", "g", 0), just(speech, (5, 0)), 2), ("falls", (ties[0],), (0, 0)))

    def test_nets_that_were_told(self):
        test = ("not", ("is", "g", 2))
        net = self.way
        for _ in range(3):
            net = laid(sliced(net, test), net)
        for count in range(3):
            self.assertEqual(
                self.check(net, self.first, self.last, count), bears(self.way, self.first, self.last, count))
        self.assertEqual(without(net, self.ties[:1]), (net[0], net[1], self.ties[1:]))
        self.assertEqual(hops(without(net, self.ties), (0, 0), 5), [((0, 0),) * 3])

    def test_told_anew(self):
        told = bears(self.way, self.first, self.last, 1)
        kept = list(told[1])
        told[1].append("more")
        told[1][0] = "other"
        self.assertEqual(bears(self.way, self.first, self.last, 1), ("bears", kept))
        told[1].clear()
        self.assertEqual(bears(self.way, self.first, self.last, 1), ("bears", kept))

    def test_a_rule_that_leads_away_from_its_switch(self):
        net = (PAIR, (made_to(PAIR, (1, 1)), anything(PAIR)), ((1, 1, 1, 0), (1, 1, 0, 0)))
        for first in (ALL, ("is", "s", 0), then(("is", "s", 1), ("is", "g", 1))):
            for last in (("is", "s", 0), just(PAIR, (1, 0)), ("not", just(PAIR, (1, 1)))):
                for count in range(3):
                    self.check(net, first, last, count)


if __name__ == "__main__":
    unittest.main()
