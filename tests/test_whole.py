"""What holds over the whole program."""

import random
import unittest

from made import (
    ALL, NONE, NOTE, SPEECH, anything, either, hops_by_tables, how_many_hops, letters, lists_in, lively_net, then)
from switchsay.alike import alike, common, within
from switchsay.comes import comes
from switchsay.errors import SwitchError
from switchsay.faults import bears, without
from switchsay.letters import letters_of, put_in
from switchsay.machines import Machine
from switchsay.nets import hops, must_net, saying_of, tables_of
from switchsay.sayings import is_test, must_saying, notes_in
from switchsay.slices import held, kept, laid, sliced
from switchsay.tables import by_table, table_of
from switchsay.trails import done, is_so, trails

SPEECHES = (SPEECH, (("s", 2), ("g", 2)), (("s", 3), ("g", 2), ("t", 2)), (("s", 1), ("g", 4)), (("s", 6), ("g", 4)))


def turned(saying):
    """What stands in an "either" the other way about, wherever it stands."""
    if saying[0] == "either":
        return ("either", turned(saying[2]), turned(saying[1]))
    if saying[0] in ("then", "not", "again"):
        return saying[:1] + tuple(turned(one) for one in saying[1:])
    return saying


def otherwise(rule):
    """The same rule, written in other ways."""
    return (
        then(ALL, rule), then(rule, ALL), either(rule, NONE), either(NONE, rule), either(rule, rule), turned(rule),
        either(turned(rule), then(ALL, rule, ALL)))


class NetsTest(unittest.TestCase):
    def hops_of(self, net, count):
        return {
            letter: hops(net, letter, count) for letter in letters(net[0])[::3]
            if how_many_hops(net, letter, count) <= 400}

    def test_hops_and_the_walk_by_tables_and_the_trails_of_the_saying(self):
        chance = random.Random(23)
        for number in range(25):
            net = lively_net(chance, SPEECHES[number % len(SPEECHES)], 24, number % 7)
            saying, tables = saying_of(net), tables_of(net)
            for count in range(1, 5):
                for letter, told in self.hops_of(net, count).items():
                    self.assertEqual(trails(net[0], saying, letter, count), told)
                    self.assertEqual(hops_by_tables(net, tables, letter, count), told)

    def test_a_rule_written_otherwise(self):
        chance = random.Random(24)
        for number in range(10):
            net = lively_net(chance, SPEECHES[number % len(SPEECHES)], 20, 4)
            place = chance.randrange(len(net[1]))
            for rule in otherwise(net[1][place]):
                self.check_alike(net, self.with_rule(net, place, rule))
            again = self.with_rule(net, place, ("again", net[1][place]))
            twice = self.with_rule(net, place, ("again", ("again", net[1][place])))
            self.check_alike(again, twice)
            behind = self.with_rule(net, place, then(again[1][place], again[1][place]))
            self.check_alike(again, behind)

    def with_rule(self, net, place, rule):
        return (net[0], net[1][:place] + (rule,) + net[1][place + 1:], net[2])

    def check_alike(self, net, other):
        for one, another in zip(net[1], other[1]):
            self.assertEqual(alike(net[0], one, another)[0], "alike")
        self.assertEqual(alike(net[0], saying_of(net), saying_of(other))[0], "alike")
        self.assertEqual(self.hops_of(net, 3), self.hops_of(other, 3))

    def test_a_rule_dropped_or_a_tie_taken_out_is_within_the_whole(self):
        chance = random.Random(25)
        for number in range(25):
            net = lively_net(chance, SPEECHES[number % len(SPEECHES)], 20, 1 + number % 6)
            place = chance.randrange(len(net[1]))
            tie = chance.choice(net[2])
            for less in (self.with_rule(net, place, NONE), without(net, (tie,)), without(net, net[2])):
                self.assertEqual(within(net[0], saying_of(less), saying_of(net))[0], "within")
                fewer = self.hops_of(less, 3)
                for letter, told in self.hops_of(net, 3).items():
                    self.assertLessEqual(set(fewer[letter]), set(told))

    def test_a_tie_taken_out_is_missed_where_hops_went_by_it(self):
        speech = SPEECHES[1]
        net = (speech, (ALL, ALL), ((0, 1, 1, 0), (0, 0, 1, 1)))
        a, b = (0, 0), (1, 1)
        less = without(net, net[2][1:])
        self.assertEqual(within(speech, saying_of(net), saying_of(less)), ("beyond", (a, a, b, b)))
        dropped = self.with_rule(net, 1, NONE)
        self.assertEqual(within(speech, saying_of(net), saying_of(dropped)), ("beyond", ((1, 0),) * 3))


class OwnTest(unittest.TestCase):
    """What is told is the asker's own, and the same asked again is told the same."""

    a = (1, 2, 3)
    saying = then(NOTE, either(("put", "gate", 1), ("put", "tag", 0)), ("again", NOTE))
    plain = either(("put", "gate", 1), then(("is", "tag", 3), ("put", "tag", 0)))
    net = (SPEECH, (plain, either(ALL, plain)), ((0, 1, 1, 0), (1, 1, 0, 2), (0, 1, 1, 0)))
    table = [((None, 2, None), ((None, None, 1), (0, None, None))), ((None, None, None), ())]
    tests = (("is", "tag", 0), ("is", "tag", 3))

    def asks(self):
        machine = Machine(SPEECH, self.saying)
        return (
            lambda: letters_of(SPEECH), lambda: put_in(SPEECH, self.a, "tag", 0),
            lambda: is_test(self.saying), lambda: notes_in(self.saying), lambda: must_saying(SPEECH, self.saying),
            lambda: trails(SPEECH, self.saying, self.a, 3), lambda: done(SPEECH, self.plain, self.a),
            lambda: is_so(SPEECH, self.tests[0], self.a),
            lambda: machine.rooms(), lambda: machine.ends(1, self.a), lambda: machine.goes(1, self.a),
            lambda: machine.goes(0, self.a), lambda: machine.ends(0, self.a),
            lambda: alike(SPEECH, self.saying, turned(self.saying)), lambda: alike(SPEECH, self.saying, self.plain),
            lambda: within(SPEECH, self.saying, self.saying), lambda: within(SPEECH, self.plain, self.saying),
            lambda: common(SPEECH, self.saying, self.plain), lambda: common(SPEECH, self.plain, ALL),
            lambda: comes(SPEECH, self.saying, *self.tests), lambda: comes(SPEECH, self.plain, *self.tests),
            lambda: by_table(self.table, self.a), lambda: by_table(self.table, (0, 0, 0)),
            lambda: table_of(SPEECH, self.plain), lambda: table_of(SPEECH, NONE),
            lambda: must_net(self.net), lambda: saying_of(self.net), lambda: tables_of(self.net),
            lambda: hops(self.net, self.a, 4), lambda: hops(self.net, (0, 0, 0), 4),
            lambda: sliced(self.net, self.tests[0]), lambda: held(self.net, self.tests[0]),
            lambda: held(self.net, ("is", "gate", 1)), lambda: laid(self.net, self.net),
            lambda: kept(self.net, self.net, *self.tests), lambda: kept(self.net, self.net, ALL, self.tests[0]),
            lambda: without(self.net, self.net[2][:1]), lambda: bears(self.net, ALL, self.tests[0], 2),
            lambda: bears(self.net, ALL, self.tests[0], 0), lambda: bears(self.net, NONE, ALL, 1))

    def refuse(self):
        """Many calls that are refused."""
        for ask in (
                lambda: must_saying(SPEECH, ("is", "no", 0)), lambda: trails(SPEECH, ("not", NOTE), self.a, 3),
                lambda: done(SPEECH, NOTE, self.a), lambda: table_of(SPEECH, then(self.plain, NOTE)),
                lambda: must_net((SPEECH, (ALL,), ())), lambda: hops((SPEECH, (anything(SPEECH),) * 2, tuple(
                    (0, gate, 0, gate) for gate in range(3))), self.a, 5),
                lambda: saying_of((SPEECH, (self.plain, NOTE), ())), lambda: sliced(self.net, ("put", "tag", 0)),
                lambda: kept(self.net, self.net, ALL, NOTE), lambda: bears(self.net, NOTE, NOTE, 2),
                lambda: without((SPEECH, (ALL, ALL), ((0, 0, 0, 9),)), ())):
            with self.assertRaises(SwitchError):
                ask()

    def test_no_list_at_two_places(self):
        for ask in self.asks():
            told = ask()
            found = lists_in(told)
            self.assertEqual(len({id(one) for one in found}), len(found))
            others = lists_in(ask())
            self.assertFalse({id(one) for one in found} & {id(one) for one in others})

    def test_told_again_whatever_is_done_to_it(self):
        before = [repr(ask()) for ask in self.asks()]
        asks = self.asks()
        for ask in asks:
            for one in lists_in(ask()):
                one.append("more")
                one.reverse()
        self.assertEqual([repr(ask()) for ask in asks], before)
        self.refuse()
        for ask in asks:
            for one in lists_in(ask()):
                one.clear()
        self.assertEqual([repr(ask()) for ask in asks[::-1]], before[::-1])
        self.assertEqual([repr(ask()) for ask in self.asks()], before)

    def test_no_truth_value_and_no_other_kind_in_what_is_told(self):
        for ask in self.asks():
            self.check_kinds(ask())
        self.assertIs(is_test(self.saying), False)

    def check_kinds(self, told):
        if isinstance(told, (list, tuple)):
            self.assertIn(type(told), (list, tuple))
            for one in told:
                self.assertNotIsInstance(one, bool)
                self.check_kinds(one)
        else:
            self.assertIn(type(told), (int, str, bool, type(None)))

    def test_what_is_handed_in_is_not_kept(self):
        table = [((None, None), ((None, 1),))]
        told = by_table(table, (0, 0))
        table.append(((None, None), ()))
        table[0] = ((None, None), ((1, 1),))
        self.assertEqual(told, [(0, 1)])
        tables = tables_of(self.net)
        before = [list(one) for one in tables]
        for letter in letters(SPEECH):
            by_table(tables[0], letter)
        self.assertEqual(tables, before)


if __name__ == "__main__":
    unittest.main()
