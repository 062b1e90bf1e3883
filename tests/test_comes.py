import random
import unittest

from made import (
    ALL, NONE, NOTE, SMALL, SPEECH, all_trails, anything, either, in_order, just, letters, letters_with, made_to,
    some_saying, some_test, then)
from switchsay.comes import comes
from switchsay.machines import Machine

ONE = (("f", 3),)
SPEECHES = (ONE, SMALL, (("x", 2), ("y", 1), ("z", 2)))


class ComesTest(unittest.TestCase):
    def check(self, speech, saying, first, last):
        told = comes(speech, saying, first, last)
        self.assertEqual((type(told), len(told)), (tuple, 2))
        if told[0] == "comes":
            self.check_trail(speech, saying, first, last, told[1])
        else:
            self.assertEqual(told[0], "never")
            self.check_pairs(speech, saying, first, last, told[1])
        return told[0]

    def check_trail(self, speech, saying, first, last, trail):
        self.assertIs(type(trail), tuple)
        begun, ended = letters_with(speech, first), letters_with(speech, last)
        asked = [
            one for one in all_trails(speech, saying, len(trail) - 2) if one[0] in begun and one[-1] in ended]
        self.assertEqual(trail, in_order(asked)[0])

    def check_pairs(self, speech, saying, first, last, pairs):
        machine = Machine(speech, saying)
        self.assertIs(type(pairs), list)
        self.assertEqual(pairs, sorted(set(pairs)))
        for letter in letters_with(speech, first):
            self.assertIn((0, letter), pairs)
        for room, letter in pairs:
            self.assertIn(room, range(machine.rooms()))
            self.assertIn(letter, letters(speech))
            for noted, later in machine.goes(room, letter):
                self.assertIn((later, noted), pairs)
            self.assertFalse(set(machine.ends(room, letter)) & set(letters_with(speech, last)))

    def test_at_once(self):
        a, b = (0, 0), (0, 1)
        self.assertEqual(comes(SMALL, ALL, ALL, ALL), ("comes", (a, a)))
        self.assertEqual(comes(SMALL, ALL, ALL, just(SMALL, b)), ("comes", (b, b)))
        self.assertEqual(comes(SMALL, NOTE, ALL, just(SMALL, b)), ("comes", (b, b, b)))
        self.assertEqual(comes(SMALL, made_to(SMALL, b), ALL, ALL), ("comes", (a, b)))
        self.assertEqual(comes(SMALL, made_to(SMALL, b), ("is", "a", 1), ALL), ("comes", ((1, 0), b)))
        self.assertEqual(comes(SMALL, anything(SMALL), ("is", "a", 1), ("is", "b", 1)), ("comes", ((1, 0), b)))

    def test_the_shortest_over_all_letters_to_begin_with(self):
        step = either(
            then(("is", "f", 0), ("put", "f", 1), NOTE), then(("is", "f", 1), ("put", "f", 2), NOTE))
        a, b, c = (0,), (1,), (2,)
        saying = ("again", step)
        self.assertEqual(comes(ONE, saying, ("is", "f", 0), ("is", "f", 2)), ("comes", (a, b, c, c)))
        self.assertEqual(comes(ONE, saying, ("not", ("is", "f", 2)), ("is", "f", 2)), ("comes", (b, c, c)))
        self.assertEqual(comes(ONE, saying, ALL, ("is", "f", 2)), ("comes", (c, c)))
        self.assertEqual(comes(ONE, saying, ("is", "f", 2), ("is", "f", 0))[0], "never")

    def test_the_first_in_order_by_whichever_room(self):
        a, b, c = (0,), (1,), (2,)
        by_late = then(NOTE, ("put", "f", 2), NOTE)
        by_early = then(NOTE, ("put", "f", 1), NOTE)
        for saying in (either(by_late, by_early), either(by_early, by_late)):
            self.assertEqual(comes(ONE, saying, ALL, ALL), ("comes", (a, a, b, b)))
        ends_late = then(NOTE, ("put", "f", 2))
        ends_early = then(NOTE, ("put", "f", 1))
        for saying in (either(ends_late, ends_early), either(ends_early, ends_late)):
            self.assertEqual(comes(ONE, saying, ALL, ("not", ("is", "f", 0))), ("comes", (a, a, b)))
        meeting = then(either(then(("put", "f", 2), NOTE), then(("put", "f", 1), NOTE)), ("put", "f", 0), NOTE)
        self.assertEqual(comes(ONE, meeting, ("is", "f", 2), ALL), ("comes", (c, b, a, a)))
        for turns in ((2, 1), (1, 2)):
            parting = either(*[then(NOTE, ("put", "f", turn)) for turn in turns])
            whole = then(parting, NOTE, ("put", "f", 0), NOTE)
            self.assertEqual(comes(ONE, whole, ALL, ALL), ("comes", (a, a, b, a, a)))

    def test_a_from_or_a_to_that_is_so_of_no_letter(self):
        for test in (NONE, ("not", ALL), then(("is", "a", 0), ("is", "a", 1))):
            for saying in (ALL, NOTE, ("again", either(NOTE, anything(SMALL)))):
                self.assertEqual(self.check(SMALL, saying, test, ALL), "never")
                self.assertEqual(self.check(SMALL, saying, ALL, test), "never")
                self.assertEqual(self.check(SMALL, saying, test, test), "never")

    def test_never(self):
        self.assertEqual(self.check(SMALL, NONE, ALL, ALL), "never")
        self.assertEqual(self.check(SMALL, then(NOTE, NONE), ALL, ALL), "never")
        staying = ("again", then(NOTE, ("put", "a", 0)))
        self.assertEqual(self.check(SMALL, staying, ("is", "a", 0), ("is", "a", 1)), "never")
        put_last = then(("again", then(anything(SMALL), NOTE)), ("put", "b", 0))
        self.assertEqual(self.check(SMALL, put_last, ALL, ("is", "b", 1)), "never")

    def test_many_sayings(self):
        chance = random.Random(43)
        told = []
        for number in range(600):
            speech = SPEECHES[number % 3]
            saying = some_saying(chance, speech, chance.randrange(1, 24), number % 4)
            first = some_test(chance, speech, chance.randrange(1, 8))
            last = some_test(chance, speech, chance.randrange(1, 8))
            with self.subTest(speech=speech, saying=saying, first=first, last=last):
                told.append(self.check(speech, saying, first, last))
        self.assertGreater(told.count("comes"), 100)
        self.assertGreater(told.count("never"), 100)

    def test_from_one_letter_to_another_by_many_notes(self):
        chance = random.Random(47)
        speech = (("f", 6),)
        lengths = []
        for number in range(120):
            steps = [
                then(("is", "f", value), ("put", "f", chance.randrange(6))) for value in chance.choices(range(6), k=8)]
            saying = ("again", then(either(*steps), NOTE))
            first, last = chance.sample(letters(speech), 2)
            with self.subTest(saying=saying, first=first, last=last):
                self.check(speech, saying, just(speech, first), just(speech, last))
            told = comes(speech, saying, just(speech, first), just(speech, last))
            lengths.append(len(told[1]) if told[0] == "comes" else 0)
        self.assertGreaterEqual(len([length for length in lengths if length >= 5]), 5)

    def test_in_one_speech_then_in_another_then_in_the_first_again(self):
        saying = ("again", then(("put", "a", 1), NOTE, ("put", "b", 0)))
        first, last = ("is", "a", 0), then(("is", "a", 1), ("is", "b", 0))
        for speech in (SMALL, (("b", 2), ("a", 2)), (("a", 3), ("b", 2)), (("b", 2), ("c", 2), ("a", 2)), SMALL):
            self.assertEqual(self.check(speech, saying, first, last), "comes")
            self.check(speech, saying, last, first)

    def test_the_pairs_are_the_askers_own(self):
        saying = ("again", then(NOTE, ("put", "tag", 1)))
        told = comes(SPEECH, saying, ("is", "tag", 1), ("is", "tag", 0))
        kept = list(told[1])
        self.assertTrue(kept)
        told[1].append("more")
        told[1][0] = "other"
        self.assertEqual(comes(SPEECH, saying, ("is", "tag", 1), ("is", "tag", 0)), ("never", kept))
        told[1].clear()
        self.assertEqual(comes(SPEECH, saying, ("is", "tag", 1), ("is", "tag", 0)), ("never", kept))
        empty = comes(SPEECH, saying, NONE, ALL)
        empty[1].append("more")
        self.assertNotIn("more", comes(SPEECH, saying, NONE, ALL)[1])


if __name__ == "__main__":
    unittest.main()
