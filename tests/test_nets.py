import random
import unittest

from made import (
    ALL, FAR, FAULTS, NONE, NOTE, SPEECH, RefusedTest, anything, depth, either, hops_by_tables, how_many_hops, in_order,
    letters, lists_in, lively_net, made_to, parts, plain_hops, plain_step, some_net, then)
from switchsay.alike import alike, common, within
from switchsay.comes import comes
from switchsay.errors import NoField, NoNet, NoPlain, NoTest, NoValue, TooGreat
from switchsay.machines import Machine
from switchsay.nets import hops, must_net, saying_of, tables_of
from switchsay.sayings import must_saying, notes_in
from switchsay.tables import table_of
from switchsay.trails import trails

PAIR = (("s", 2), ("g", 2))
SPEECHES = (
    PAIR, SPEECH, (("s", 1), ("g", 1)), (("s", 1), ("g", 4), ("t", 2)), (("s", 3), ("g", 1), ("t", 2)),
    (("s", 3), ("g", 2)), (("g", 2), ("s", 2), ("a", 1)))


class MustNetTest(RefusedTest):
    good = (SPEECH, (ALL, then(("is", "gate", 1), ("put", "tag", 2))), ((0, 2, 1, 0), (1, 1, 0, 0)))

    def net(self, rules=good[1], ties=good[2]):
        return (SPEECH, rules, ties)

    def check(self, net, error, name=None, value=None):
        self.refused(must_net, (net,), error, name, value)

    def test_nothing_is_wrong(self):
        chance = random.Random(6)
        self.assertIsNone(must_net(self.good))
        for speech in SPEECHES:
            for ties in range(7):
                self.assertIsNone(must_net(some_net(chance, speech, 24, ties)))
        self.assertIsNone(must_net((SPEECH, (NONE, ("again", anything(SPEECH))), ((0, 0, 0, 0), (0, 0, 0, 0)))))

    def test_no_net_whatever_else(self):
        bad_ties = ((FAR, -1, 9, 9),)
        for rules in ((), (ALL,), (NOTE, ("is", "no", 0)), (ALL, ALL, ALL)):
            for ties in ((), bad_ties):
                self.check(((("switch", 2),), rules, ties), NoNet)
                if len(rules) != 2:
                    self.check((SPEECH, rules, ties), NoNet)
        for bad in [fault[0] for fault in FAULTS] + [NOTE]:
            for many in (0, 1, 3, 4, 7):
                self.check((SPEECH, (bad,) * many, bad_ties), NoNet)
            for many in (0, 1, 2, 3):
                self.check(((("switch", 2),), (bad,) * many, bad_ties), NoNet)
        self.check(((("s", 1), ("g", 3)), (), ()), NoNet)
        self.check(((("s", 6), ("g", 4)), (ALL,) * 5, ()), NoNet)
        self.check(((("s", 6), ("g", 4)), (ALL,) * 7, ()), NoNet)

    def test_no_net_is_made_of_a_text(self):
        with self.assertRaises(NoNet) as caught:
            must_net((SPEECH, (), ()))
        self.assertEqual([type(one) for one in caught.exception.args], [str])

    def test_rules_one_by_one(self):
        for fault, error, name, value in FAULTS:
            for rule in (fault, then(ALL, ("again", fault)), either(NOTE, fault)):
                for rules in ((rule, ALL), (ALL, rule), (rule, ("is", "later", 0)), (rule, NOTE)):
                    self.check(self.net(rules), error, name, value)
                    self.check(self.net(rules, ((0, 0, 2, 0),)), error, name, value)

    def test_no_plain_with_the_whole_rule(self):
        for rule in (NOTE, then(ALL, NOTE), ("again", either(NONE, then(NOTE, NOTE)))):
            for rules in ((rule, ALL), (ALL, rule), (rule, ("is", "later", 0)), (rule, ("not", NOTE))):
                with self.assertRaises(NoPlain) as caught:
                    must_net(self.net(rules, ((9, 9, 9, 9),)))
                self.assertIs(caught.exception.saying, rule)
        first, second = then(NOTE, ALL), then(ALL, NOTE)
        self.check(self.net((first, second)), NoPlain, "saying", first)
        self.check(self.net((("put", "tag", 4), first)), NoValue, "value", 4)
        self.check(self.net((("not", NOTE), ALL)), NoTest, "saying", NOTE)

    def test_each_place_of_a_tie(self):
        counts = (2, 3, 2, 3)
        for place, count in enumerate(counts):
            for value in (-1, count, count + 1, -FAR, FAR, 10 ** 59):
                tie = tuple(value if at == place else counts[at] - 1 for at in range(4))
                worse_behind = tie[:place + 1] + (77,) * (3 - place)
                for ties in ((tie,), ((0, 0, 1, 1), tie), (tie, (9, 9, 9, 9)), (worse_behind, tie)):
                    self.check(self.net(ties=ties), NoValue, "value", value)
        self.assertIsNone(must_net(self.net(ties=((1, 2, 1, 2), (0, 0, 0, 0)))))

    def test_gates_and_switches_have_counts_of_their_own(self):
        speech = (("s", 2), ("g", 6), ("t", 2))
        self.assertIsNone(must_net((speech, (ALL, ALL), ((1, 5, 0, 5),))))
        self.check((speech, (ALL, ALL), ((5, 1, 5, 0),)), NoValue, "value", 5)
        self.check((speech, (ALL, ALL), ((1, 1, 2, 6),)), NoValue, "value", 2)

    def test_the_field_is_the_thing_handed_in(self):
        colour = "col" + "our"
        with self.assertRaises(NoField) as caught:
            must_net(self.net((ALL, ("put", colour, 0))))
        self.assertIs(caught.exception.field, colour)
        inner = then(ALL, NOTE)
        with self.assertRaises(NoTest) as caught:
            must_net(self.net((ALL, ("not", inner))))
        self.assertIs(caught.exception.saying, inner)


class HopsTest(unittest.TestCase):
    def check(self, net, counts=range(1, 6), some=1):
        for letter in letters(net[0])[::some]:
            for count in counts:
                if how_many_hops(net, letter, count) > 400:
                    with self.assertRaises(TooGreat) as caught:
                        hops(net, letter, count)
                    self.assertEqual((caught.exception.number, caught.exception.most), (401, 400))
                else:
                    told = hops(net, letter, count)
                    self.assertIs(type(told), list)
                    self.assertEqual(told, plain_hops(net, letter, count))

    def test_a_rule_that_keeps_a_letter_where_no_tie_leads_on(self):
        net = (PAIR, (ALL, NONE), ((0, 1, 1, 0),))
        for count in range(1, 6):
            self.assertEqual(hops(net, (0, 0), count), [((0, 0),) * 3])
            self.assertEqual(hops(net, (1, 0), count), [])
        self.check(net)

    def test_it_ends_there_and_goes_on_by_each_tie(self):
        a, b, c = (0, 1), (1, 0), (1, 1)
        net = (PAIR, (ALL, ALL), ((0, 1, 1, 1), (0, 1, 1, 0)))
        self.assertEqual(hops(net, a, 1), [(a, a, a)])
        for count in range(2, 6):
            self.assertEqual(hops(net, a, count), [(a, a, a), (a, a, b, b), (a, a, c, c)])
        self.check(net)

    def test_ended_and_led_to_are_not_the_same(self):
        a = (0, 0)
        net = (PAIR, (("put", "g", 1), ("put", "g", 0)), ((0, 1, 1, 1),))
        self.assertEqual(hops(net, a, 5), [(a, a, (0, 1)), (a, a, (1, 1), (1, 0))])
        self.check(net)

    def test_a_rule_that_puts_the_switch_itself(self):
        a = (0, 0)
        net = (PAIR, (("put", "s", 1), ("put", "g", 1)), ((1, 0, 0, 1), (0, 0, 1, 1)))
        self.assertEqual(
            hops(net, a, 5), [(a, a, (1, 0)), (a, a, (0, 1), (1, 1))])
        self.check(net)

    def test_the_rule_of_the_switch_at_which_it_is(self):
        net = ((("s", 3), ("g", 2)), (("put", "g", 1), NONE, ("put", "g", 0)), ())
        self.assertEqual(hops(net, (0, 0), 3), [((0, 0), (0, 0), (0, 1))])
        self.assertEqual(hops(net, (1, 0), 3), [])
        self.assertEqual(hops(net, (2, 1), 3), [((2, 1), (2, 1), (2, 0))])
        self.check(net)

    def test_ties_in_a_ring(self):
        a, b = (0, 0), (1, 0)
        net = (PAIR, (ALL, ALL), ((0, 0, 1, 0), (1, 0, 0, 0)))
        asked = [(a, a, a), (a, a, b, b), (a, a, b, a, a), (a, a, b, a, b, b), (a, a, b, a, b, a, a)]
        for count in range(1, 6):
            self.assertEqual(hops(net, a, count), asked[:count])
        own = (PAIR, (ALL, ALL), ((0, 0, 0, 0),))
        self.assertEqual(hops(own, a, 5), [(a,) * many for many in range(3, 8)])
        self.check(net)
        self.check(own)

    def test_a_tie_that_stands_twice(self):
        tie, other = (0, 0, 1, 1), (1, 1, 0, 0)
        for rules in ((ALL, ALL), (anything(PAIR), ("put", "g", 1))):
            once = (PAIR, rules, (tie, other))
            for ties in ((tie, tie, other), (other, tie, other, tie, tie, other)):
                twice = (PAIR, rules, ties)
                self.check(twice)
                for letter in letters(PAIR):
                    self.assertEqual(hops(twice, letter, 3), hops(once, letter, 3))

    def test_no_ties(self):
        net = (SPEECH, (anything(SPEECH), either(ALL, ("put", "tag", 0))), ())
        self.check(net)
        self.assertEqual(len(hops(net, (0, 0, 0), 5)), 24)

    def test_the_third_field_goes_along(self):
        net = (SPEECH, (("put", "gate", 2), ALL), ((0, 2, 1, 1),))
        for tag in range(4):
            a, b = (0, 0, tag), (1, 1, tag)
            self.assertEqual(hops(net, a, 5), [(a, a, (0, 2, tag)), (a, a, b, b)])

    def test_the_shorter_first_each_once_in_order(self):
        chance = random.Random(7)
        for number in range(60):
            speech = SPEECHES[number % len(SPEECHES)]
            net = lively_net(chance, speech, 20, 1 + number % 6)
            with self.subTest(net=net):
                self.check(net, some=1 + len(letters(speech)) // 5)

    def test_first_two_fields_whatever_their_names(self):
        speech = (("gate", 2), ("tag", 2), ("switch", 2))
        net = (speech, (("put", "switch", 1), ALL), ((0, 1, 1, 0),))
        a = (0, 1, 0)
        self.assertEqual(hops(net, a, 4), [(a, a, (0, 1, 1)), (a, a, (1, 0, 1), (1, 0, 1))])
        self.check(net)

    def four_hundred(self, more):
        """Ten ends at each switch, three of which lead on: 10 + 30 + 90 + 270 hops."""
        speech = (("s", 2), ("g", 6))
        rule = then(either(("put", "s", 0), ("put", "s", 1)), either(*[("put", "g", value) for value in range(5)]))
        ties = ((0, 0, 1, 0), (0, 1, 1, 1), (1, 2, 1, 2))
        return (speech, (either(rule, more), rule), ties)

    def test_just_four_hundred_and_one_more(self):
        net = self.four_hundred(NONE)
        told = hops(net, (0, 0), 4)
        self.assertEqual(len(told), 400)
        self.assertEqual(told, plain_hops(net, (0, 0), 4))
        more = self.four_hundred(made_to(net[0], (0, 5)))
        self.assertEqual(how_many_hops(more, (0, 0), 4), 401)
        for one, count in ((more, 4), (more, 5), (net, 5)):
            with self.assertRaises(TooGreat) as caught:
                hops(one, (0, 0), count)
            self.assertEqual((caught.exception.number, caught.exception.most), (401, 400))
        self.assertEqual(hops(net, (0, 0), 4), told)
        self.check(more, (3,))

    def test_many_more(self):
        rule = anything(SPEECH)
        ties = tuple((switch, gate, switch, gate) for switch in range(2) for gate in range(3))
        net = (SPEECH, (rule, rule), ties)
        self.assertEqual(len(hops(net, (1, 2, 3), 1)), 24)
        for count in range(2, 6):
            with self.assertRaises(TooGreat) as caught:
                hops(net, (1, 2, 3), count)
            self.assertEqual((caught.exception.number, caught.exception.most), (401, 400))

    def test_told_anew(self):
        net = self.four_hundred(NONE)
        told = hops(net, (0, 0), 2)
        kept = list(told)
        told.append("more")
        told[0] = "other"
        self.assertEqual(hops(net, (0, 0), 2), kept)
        told.clear()
        self.assertEqual(hops(net, (0, 0), 2), kept)


class SayingOfTest(unittest.TestCase):
    def check(self, net, some=1):
        speech = net[0]
        saying = saying_of(net)
        self.assertIsNone(must_saying(speech, saying))
        self.assertLessEqual(notes_in(saying), 2)
        self.assertLessEqual(parts(saying), 2000)
        self.assertLessEqual(depth(saying), 80)
        for letter in letters(speech)[::some]:
            self.assertEqual(trails(speech, saying, letter, 0), [])
            for count in range(1, 5):
                if how_many_hops(net, letter, count) > 400:
                    with self.assertRaises(TooGreat):
                        trails(speech, saying, letter, count)
                else:
                    self.assertEqual(trails(speech, saying, letter, count), plain_hops(net, letter, count))
        self.assertEqual(saying_of(net), saying)
        return saying

    def test_small_nets(self):
        ring = ((0, 0, 1, 0), (1, 0, 0, 0))
        for rules in ((ALL, ALL), (NONE, NONE), (ALL, NONE), (("put", "g", 0), ("put", "s", 0)), (anything(PAIR), ALL)):
            for ties in ((), ring, ring + ring, ((0, 0, 0, 0),), ((0, 1, 1, 0),)):
                self.check((PAIR, rules, ties))
        self.check(((("s", 1), ("g", 1)), (ALL,), ((0, 0, 0, 0),)))
        self.check(((("s", 1), ("g", 1)), (NONE,), ((0, 0, 0, 0),)))
        self.check(((("s", 1), ("g", 1), ("t", 1)), (ALL,), ()))

    def test_the_third_field_and_the_names_of_fields(self):
        for speech in ((("gate", 2), ("tag", 2), ("switch", 2)), (("is", 1), ("note", 3), ("put", 2))):
            field = speech[2][0]
            rules = (either(("put", field, 1), ("is", field, 0)),) * speech[0][1]
            self.check((speech, rules, ((0, 1, 0, 0), (0, 0, 0, 1))))

    def test_some_nets(self):
        chance = random.Random(8)
        for number in range(60):
            speech = SPEECHES[number % len(SPEECHES)]
            net = lively_net(chance, speech, 22, number % 7)
            with self.subTest(net=net):
                self.check(net, 1 + len(letters(speech)) // 6)

    def test_the_greatest_nets(self):
        chance = random.Random(9)
        for speech in ((("s", 6), ("g", 4)), (("s", 6), ("g", 2), ("t", 2)), (("s", 6), ("g", 1), ("t", 4)), SPEECH):
            for make in (some_net, some_net, lively_net):
                net = make(chance, speech, 24, 6)
                self.assertTrue(all(parts(rule) == 24 for rule in net[1]) or make == lively_net)
                self.check(net, 7)

    def test_deep_rules(self):
        speech = (("s", 6), ("g", 4))
        rule, test = ("put", "g", 1), ("is", "g", 0)
        while parts(rule) < 24:
            rule = ("again", rule)
            test = ("not", test)
        self.check((speech, (rule, test) * 3, ((0, 1, 1, 2), (1, 2, 2, 0))), 5)

    def test_handed_in_wherever_a_saying_may_be(self):
        chance = random.Random(10)
        for speech in (PAIR, SPEECH, (("s", 6), ("g", 4))):
            one, other = (lively_net(chance, speech, 24, 5) for _ in range(2))
            first, second = saying_of(one), saying_of(other)
            both = either(first, second)
            self.assertEqual(Machine(speech, both).rooms(), 1 + notes_in(both))
            for letter in letters(speech)[::5]:
                joined = set(plain_hops(one, letter, 2)) | set(plain_hops(other, letter, 2))
                if len(joined) <= 400:
                    told = trails(speech, both, letter, 2)
                    self.assertEqual(told, in_order(joined))
                    self.assertEqual(Machine(speech, both).goes(0, letter)[0][0], letter)
                    self.assertEqual(Machine(speech, both).ends(0, letter), [])
            self.assertEqual(alike(speech, both, either(second, first))[0], "alike")
            self.assertEqual(alike(speech, first, either(first, first))[0], "alike")
            for net, saying in ((one, first), (other, second)):
                self.assertEqual(within(speech, saying, both)[0], "within")
                self.assertEqual(common(speech, saying, NOTE)[0], "common" if self.keeps(net) else "nothing")
            told = comes(speech, both, ALL, ALL)
            self.assertEqual(told, ("comes", min(comes(speech, saying, ALL, ALL)[1] for saying in (first, second))))

    def keeps(self, net):
        """Whether some letter ends as it was at its first switch."""
        return any(letter in plain_step(net, letter) for letter in letters(net[0]))

    def test_apart_and_beyond_by_a_single_hop(self):
        one = (PAIR, (ALL, ("put", "g", 1)), ((0, 0, 1, 0), (1, 1, 0, 1)))
        other = (PAIR, (ALL, either(ALL, ("put", "g", 1))), one[2])
        told = alike(PAIR, saying_of(one), saying_of(other))
        self.assertEqual(told, ("apart", ((1, 0),) * 3, 1))
        self.assertEqual(within(PAIR, saying_of(one), saying_of(other))[0], "within")
        self.assertEqual(within(PAIR, saying_of(other), saying_of(one)), ("beyond", ((1, 0),) * 3))


class TablesOfTest(unittest.TestCase):
    def test_a_table_for_each_rule_in_order(self):
        chance = random.Random(11)
        for speech in SPEECHES:
            net = some_net(chance, speech, 16, 3)
            told = tables_of(net)
            self.assertIs(type(told), list)
            self.assertEqual(len(told), speech[0][1])
            for table, rule in zip(told, net[1]):
                self.assertEqual(table, table_of(speech, rule))
        rules = (("put", "gate", 0), ("put", "gate", 2))
        self.assertEqual(tables_of((SPEECH, rules, ())), [table_of(SPEECH, rule) for rule in rules])
        self.assertNotEqual(*tables_of((SPEECH, rules, ())))

    def test_no_list_at_two_places(self):
        rule = either(("put", "g", 0), ALL)
        for rules in ((rule,) * 3, (NONE,) * 3, (rule, NONE, rule)):
            net = ((("s", 3), ("g", 2)), rules, ())
            told = tables_of(net)
            found = lists_in(told)
            self.assertEqual(len(found), 4)
            self.assertEqual(len({id(one) for one in found}), 4)
            kept = [list(table) for table in told]
            told[0].append("more")
            self.assertEqual(told[1:], kept[1:])
            self.assertEqual(tables_of(net), kept)
            told.clear()
            self.assertEqual(tables_of(net), kept)

    def test_walking_by_them_makes_the_same_hops(self):
        chance = random.Random(12)
        for number in range(40):
            speech = SPEECHES[number % len(SPEECHES)]
            net = lively_net(chance, speech, 20, number % 7)
            tables = tables_of(net)
            for letter in letters(speech)[::5]:
                if how_many_hops(net, letter, 4) <= 400:
                    self.assertEqual(hops_by_tables(net, tables, letter, 4), hops(net, letter, 4))


if __name__ == "__main__":
    unittest.main()
