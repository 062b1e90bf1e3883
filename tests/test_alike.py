import random
import unittest

from made import (
    ALL, NONE, NOTE, SMALL, SPEECH, all_trails, anything, either, in_order, just, letters, made_to, plain_trails,
    some_saying, then)
from switchsay.alike import alike, common, within
from switchsay.machines import Machine

ONE = (("f", 3),)
SPEECHES = (ONE, SMALL, (("x", 2), ("y", 1), ("z", 2)))
DOTTED = ("again", either(then(("is", "a", 0), NOTE, ("put", "a", 1)), then(("is", "a", 1), NOTE, ("put", "b", 0))))
SOME = (
    NONE, ALL, NOTE, ("put", "a", 1), ("again", NOTE), then(NOTE, ("put", "b", 0), NOTE), DOTTED,
    ("again", either(NOTE, ("put", "b", 1))), either(("put", "a", 0), then(NOTE, NOTE)),
    then(("again", then(("put", "b", 1), NOTE)), ("is", "a", 0)),
)


def written_otherwise(saying):
    """Sayings that make the same trails from every letter."""
    return (
        saying,
        then(ALL, saying),
        then(saying, ALL),
        either(saying, NONE),
        either(NONE, saying),
        either(saying, saying),
        either(saying, then(saying, ("not", NONE))),
        either(then(saying, ("is", "a", 0)), then(saying, ("not", ("is", "a", 0)))),
        either(then(("is", "b", 1), saying), then(("is", "b", 0), saying)),
        either(then(NONE, NOTE), saying),
    )


def many_pairs(seed):
    """Speeches with two sayings each."""
    chance = random.Random(seed)
    for number in range(400):
        speech = SPEECHES[number % 3]
        one = some_saying(chance, speech, chance.randrange(1, 16), number % 4)
        yield speech, one, some_saying(chance, speech, chance.randrange(1, 16), chance.randrange(4))


class HeldTest(unittest.TestCase):
    """Holds what is told against the document's words, by the machines that Machine tells."""

    def rooms_after(self, machine, rooms, letter, noted):
        return tuple(sorted({
            later for room in rooms for other, later in machine.goes(room, letter) if other == noted}))

    def ends(self, machine, rooms, letter):
        return {end for room in rooms for end in machine.ends(room, letter)}

    def check_table(self, speech, one, other, table, good, one_side_may_lack=False):
        machines = (Machine(speech, one), Machine(speech, other))
        self.assertIs(type(table), list)
        self.assertEqual(table, sorted(set(table)))
        for letter in letters(speech):
            self.assertIn((letter, (0,), (0,)), table)
        known = set(table)
        for letter, rooms, others in table:
            self.assertIn(letter, letters(speech))
            for machine, some in zip(machines, (rooms, others)):
                self.assertIs(type(some), tuple)
                self.assertEqual(list(some), sorted(set(some)))
                self.assertLessEqual(set(some), set(range(machine.rooms())))
            self.assertTrue(rooms or others)
            ends = [self.ends(machine, some, letter) for machine, some in zip(machines, (rooms, others))]
            self.assertTrue(good(*ends))
            for noted in letters(speech):
                after = (noted, self.rooms_after(machines[0], rooms, letter, noted),
                         self.rooms_after(machines[1], others, letter, noted))
                both = bool(after[1]) and bool(after[2])
                if both or (not one_side_may_lack and (after[1] or after[2])):
                    self.assertIn(after, known)

    def check_first(self, trail, some):
        """It is the first of the shortest of them, which are all with at most its notes."""
        self.assertIs(type(trail), tuple)
        self.assertEqual(trail, in_order(some)[0])

    def check_alike(self, speech, one, other):
        told = alike(speech, one, other)
        self.assertIs(type(told), tuple)
        if told[0] == "alike":
            self.assertEqual(len(told), 2)
            self.check_table(speech, one, other, told[1], lambda ends, others: ends == others)
            self.assertEqual(all_trails(speech, one, 3), all_trails(speech, other, 3))
            return told[0]
        self.assertEqual((told[0], len(told)), ("apart", 3))
        made = [all_trails(speech, saying, len(told[1]) - 2) for saying in (one, other)]
        self.check_first(told[1], made[0] ^ made[1])
        self.assertIs(type(told[2]), int)
        self.assertIn(told[2], (0, 1))
        self.assertIn(told[1], made[told[2]])
        return told[0]

    def check_within(self, speech, one, other):
        told = within(speech, one, other)
        self.assertEqual((type(told), len(told)), (tuple, 2))
        if told[0] == "within":
            self.check_table(speech, one, other, told[1], lambda ends, others: ends <= others)
            self.assertLessEqual(all_trails(speech, one, 3), all_trails(speech, other, 3))
            return told[0]
        self.assertEqual(told[0], "beyond")
        made = [all_trails(speech, saying, len(told[1]) - 2) for saying in (one, other)]
        self.check_first(told[1], made[0] - made[1])
        return told[0]

    def check_common(self, speech, one, other):
        told = common(speech, one, other)
        self.assertEqual((type(told), len(told)), (tuple, 2))
        if told[0] == "nothing":
            self.check_table(speech, one, other, told[1], lambda ends, others: not ends & others, True)
            self.assertFalse(all_trails(speech, one, 3) & all_trails(speech, other, 3))
            return told[0]
        self.assertEqual(told[0], "common")
        made = [all_trails(speech, saying, len(told[1]) - 2) for saying in (one, other)]
        self.check_first(told[1], made[0] & made[1])
        return told[0]


class AlikeTest(HeldTest):
    def test_sayings_written_otherwise(self):
        for saying in SOME:
            ways = written_otherwise(saying)
            for way in ways:
                with self.subTest(saying=saying, way=way):
                    self.assertEqual(self.check_alike(SMALL, saying, way), "alike")
                    self.assertEqual(self.check_alike(SMALL, way, saying), "alike")

    def test_again_of_again_and_turned_about(self):
        for saying in SOME:
            for one, other in (
                    (("again", saying), ("again", ("again", saying))),
                    (("again", saying), either(ALL, then(saying, ("again", saying)))),
                    (("again", saying), then(("again", saying), ("again", saying))),
                    (("again", saying), ("again", either(saying, ALL))),
                    (either(saying, DOTTED), either(DOTTED, saying)),
                    (then(saying, then(NOTE, saying)), then(then(saying, NOTE), saying)),
                    (then(saying, ("again", then(NOTE, saying))), then(("again", then(saying, NOTE)), saying))):
                self.assertEqual(self.check_alike(SMALL, one, other), "alike")

    def test_apart_at_once(self):
        a = (0, 0)
        self.assertEqual(alike(SMALL, ALL, NONE), ("apart", (a, a), 0))
        self.assertEqual(alike(SMALL, NONE, ALL), ("apart", (a, a), 1))
        self.assertEqual(alike(SMALL, NONE, NOTE), ("apart", (a, a, a), 1))
        self.assertEqual(alike(SMALL, NOTE, ALL), ("apart", (a, a), 1))
        self.assertEqual(alike(SMALL, ("put", "b", 1), ALL), ("apart", (a, a), 1))
        self.assertEqual(alike(SMALL, ("put", "b", 0), ALL), ("apart", ((0, 1), (0, 0)), 0))

    def test_the_first_in_order_whoever_makes_it(self):
        b = (1, 0)
        one = either(then(just(SMALL, b), ("put", "b", 1)), then(("is", "a", 0), NOTE))
        other = then(just(SMALL, b), ("put", "a", 0))
        self.assertEqual(alike(SMALL, one, other), ("apart", (b, (0, 0)), 1))
        self.assertEqual(alike(SMALL, other, one), ("apart", (b, (0, 0)), 0))
        later = either(NOTE, then(just(SMALL, (1, 1)), NONE))
        earlier = then(NOTE, ("not", just(SMALL, (0, 1))))
        self.assertEqual(alike(SMALL, later, earlier), ("apart", ((0, 1),) * 3, 0))

    def test_apart_at_a_trail_of_two_or_three_notes_alone(self):
        any_of = anything(SMALL)
        for times in (2, 3):
            same = then(*[NOTE] * times)
            for end in letters(SMALL):
                one = either(NOTE, then(any_of, same))
                other = either(NOTE, then(any_of, same, ("not", just(SMALL, end))))
                trail = ((0, 0),) + (end,) * (times + 1)
                self.assertEqual(alike(SMALL, one, other), ("apart", trail, 0))
                self.assertEqual(alike(SMALL, other, one), ("apart", trail, 1))
                self.check_alike(SMALL, one, other)

    def test_the_first_of_the_shortest_by_another_way_round(self):
        a, b, c = (0,), (1,), (2,)
        one = either(then(("put", "f", 2), NOTE, ("put", "f", 0), NOTE), then(NOTE, ("put", "f", 2), NOTE))
        self.assertEqual(alike(ONE, one, NONE), ("apart", (a, a, c, c), 0))
        only = then(NOTE, ("is", "f", 2), NOTE)
        self.assertEqual(alike(ONE, either(one, only), one), ("alike", alike(ONE, either(one, only), one)[1]))
        more = then(either(("put", "f", 1), ("put", "f", 2)), NOTE, either(ALL, ("put", "f", 0)), NOTE)
        self.assertEqual(alike(ONE, more, NONE), ("apart", (a, b, a, a), 0))
        self.assertEqual(alike(ONE, then(("is", "f", 2), more), NONE), ("apart", (c, b, a, a), 0))
        self.assertEqual(alike(ONE, more, then(("not", ("is", "f", 0)), more)), ("apart", (a, b, a, a), 0))

    def test_every_two_of_some(self):
        for one in SOME:
            for other in SOME:
                with self.subTest(one=one, other=other):
                    self.assertEqual(self.check_alike(SMALL, one, other) == "alike", one == other)

    def test_many_sayings(self):
        told = [self.check_alike(*three) for three in many_pairs(23)]
        self.assertGreater(told.count("alike"), 10)
        self.assertGreater(told.count("apart"), 100)

    def test_a_part_of_a_saying_changed(self):
        chance = random.Random(29)
        for number in range(200):
            speech = SPEECHES[number % 3]
            inner = some_saying(chance, speech, 6, 1)
            another = some_saying(chance, speech, 6, 1)
            around = some_saying(chance, speech, 8, 1)
            pairs = (
                (then(around, NOTE, inner), then(around, NOTE, another)),
                (("again", then(around, inner)), ("again", then(around, another))),
                (("again", then(NOTE, inner, NOTE)), ("again", then(NOTE, another, NOTE))))
            for one, other in pairs:
                with self.subTest(speech=speech, one=one, other=other):
                    self.check_alike(speech, one, other)
                    self.check_within(speech, one, other)
                    self.check_common(speech, one, other)

    def test_the_table_is_the_askers_own(self):
        told = alike(SMALL, DOTTED, either(DOTTED, NONE))
        kept = list(told[1])
        told[1].append("more")
        told[1][0] = "other"
        self.assertEqual(alike(SMALL, DOTTED, either(DOTTED, NONE)), ("alike", kept))
        told[1].clear()
        self.assertEqual(alike(SMALL, DOTTED, either(DOTTED, NONE)), ("alike", kept))

    def test_in_one_speech_then_in_another_then_in_the_first_again(self):
        few = either(("is", "a", 0), ("is", "a", 1))
        one = then(NOTE, either(("put", "a", 0), ("put", "a", 1)), NOTE)
        other = either(then(NOTE, ("put", "a", 0), NOTE), then(NOTE, few, ("put", "a", 1), NOTE))
        speeches = (SMALL, (("b", 2), ("a", 2)), (("a", 3), ("b", 2)), (("a", 2), ("b", 2), ("c", 2)), SMALL)
        asked = ("alike", "alike", "apart", "alike", "alike")
        told = [self.check_alike(speech, one, other) for speech in speeches]
        self.assertEqual(tuple(told), asked)
        for speech in speeches:
            self.check_within(speech, one, other)
            self.check_common(speech, one, other)


class WithinTest(HeldTest):
    def test_a_saying_and_the_either_of_it_and_another(self):
        for one in SOME:
            for other in SOME:
                with self.subTest(one=one, other=other):
                    self.assertEqual(self.check_within(SMALL, one, either(one, other)), "within")
                    self.assertEqual(self.check_within(SMALL, one, either(other, one)), "within")
                    self.check_within(SMALL, either(one, other), one)

    def test_none_and_itself(self):
        for saying in SOME:
            self.assertEqual(self.check_within(SMALL, NONE, saying), "within")
            self.assertEqual(self.check_within(SMALL, saying, saying), "within")
            self.assertEqual(self.check_within(SMALL, saying, NONE), "within" if saying == NONE else "beyond")

    def test_the_first_of_the_shortest(self):
        a, b = (0, 0), (0, 1)
        self.assertEqual(within(SMALL, ALL, NONE), ("beyond", (a, a)))
        self.assertEqual(within(SMALL, either(NOTE, ALL), ALL), ("beyond", (a, a, a)))
        self.assertEqual(within(SMALL, ALL, just(SMALL, a)), ("beyond", (b, b)))
        self.assertEqual(
            within(SMALL, ("again", NOTE), either(ALL, NOTE, then(NOTE, NOTE))), ("beyond", (a,) * 5))
        self.assertEqual(
            within(SMALL, anything(SMALL), either(ALL, made_to(SMALL, b))), ("beyond", (a, (1, 0))))

    def test_a_longer_trail_that_the_other_alone_makes_is_no_matter(self):
        self.assertEqual(self.check_within(SMALL, NOTE, ("again", NOTE)), "within")
        self.assertEqual(self.check_within(SMALL, then(NOTE, NOTE), ("again", then(NOTE, NOTE))), "within")
        self.assertEqual(self.check_within(SMALL, then(NOTE, NOTE, NOTE), ("again", then(NOTE, NOTE))), "beyond")

    def test_many_sayings(self):
        told = [self.check_within(*three) for three in many_pairs(31)]
        for speech, one, other in many_pairs(31):
            both = within(speech, one, other)[0] == within(speech, other, one)[0] == "within"
            self.assertEqual(alike(speech, one, other)[0] == "alike", both)
        self.assertGreater(told.count("within"), 30)
        self.assertGreater(told.count("beyond"), 100)

    def test_the_table_is_the_askers_own(self):
        told = within(SMALL, DOTTED, either(DOTTED, ALL))
        kept = list(told[1])
        told[1].clear()
        self.assertEqual(within(SMALL, DOTTED, either(DOTTED, ALL)), ("within", kept))


class CommonTest(HeldTest):
    def test_of_none(self):
        for saying in SOME:
            self.assertEqual(self.check_common(SMALL, NONE, saying), "nothing")
            self.assertEqual(self.check_common(SMALL, saying, NONE), "nothing")
            self.assertEqual(self.check_common(SMALL, saying, saying), "nothing" if saying == NONE else "common")

    def test_a_saying_and_the_either_of_it_and_another(self):
        for one in SOME[1:]:
            for other in SOME:
                with self.subTest(one=one, other=other):
                    self.assertEqual(self.check_common(SMALL, one, either(other, one)), "common")
                    self.check_common(SMALL, one, other)

    def test_the_first_of_the_shortest(self):
        a, b = (0, 0), (1, 0)
        self.assertEqual(common(SMALL, ALL, either(NOTE, ALL)), ("common", (a, a)))
        self.assertEqual(common(SMALL, ALL, either(NOTE, just(SMALL, b))), ("common", (b, b)))
        self.assertEqual(common(SMALL, anything(SMALL), made_to(SMALL, b)), ("common", (a, b)))
        self.assertEqual(
            common(SMALL, then(NOTE, ("again", then(NOTE, NOTE))), then(NOTE, NOTE, ("again", NOTE))),
            ("common", (a,) * 5))

    def test_nothing_by_the_count_of_notes_or_by_a_test(self):
        for one, other in (
                (ALL, NOTE),
                (("again", then(NOTE, NOTE)), then(NOTE, ("again", then(NOTE, NOTE)))),
                (then(("is", "a", 0), NOTE), then(("is", "a", 1), NOTE)),
                (then(NOTE, ("put", "a", 0)), then(NOTE, ("put", "a", 1))),
                (then(NOTE, ("put", "a", 0), NOTE, ("put", "b", 0)), then(NOTE, ("put", "a", 1), NOTE, ALL))):
            self.assertEqual(self.check_common(SMALL, one, other), "nothing")
            self.assertEqual(self.check_common(SMALL, other, one), "nothing")

    def test_many_sayings(self):
        told = [self.check_common(*three) for three in many_pairs(37)]
        self.assertGreater(told.count("nothing"), 50)
        self.assertGreater(told.count("common"), 50)

    def test_the_table_is_the_askers_own(self):
        one, other = ("again", then(NOTE, NOTE)), then(NOTE, ("again", then(NOTE, NOTE)))
        told = common(SMALL, one, other)
        kept = list(told[1])
        told[1].clear()
        self.assertEqual(common(SMALL, one, other), ("nothing", kept))


class GreaterSpeechTest(HeldTest):
    def test_many_sayings_with_up_to_three_notes(self):
        chance = random.Random(41)
        for number in range(40):
            one = some_saying(chance, SPEECH, 20, number % 4)
            other = chance.choice((one, some_saying(chance, SPEECH, 12, 2)))
            other = chance.choice((then(other, ALL), either(other, NOTE), then(("not", ("is", "tag", 3)), other)))
            with self.subTest(one=one, other=other):
                for ask in (alike, within, common):
                    self.assertEqual(ask(SPEECH, one, other), ask(SPEECH, one, other))
                told = alike(SPEECH, one, other)
                if told[0] == "alike":
                    self.check_table(SPEECH, one, other, told[1], lambda ends, others: ends == others)
                else:
                    trail = told[1]
                    makes = [
                        trail in plain_trails(SPEECH, saying, trail[0], len(trail) - 2) for saying in (one, other)]
                    self.assertEqual(makes, [told[2] == 0, told[2] == 1])


if __name__ == "__main__":
    unittest.main()
