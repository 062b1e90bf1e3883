import itertools
import random
import time
import unittest

from made import (
    ALL, NINE, NONE, NOTE, SMALL, SPEECH, anything, either, in_order, just, letters, made_to, plain_trails, some_saying,
    some_test, then)
from switchsay.errors import NoField, NoPlain, NoTest, NoValue, TooGreat
from switchsay.trails import done, is_so, trails

ONE = (("f", 3),)
SPEECHES = (ONE, SMALL, (("x", 2), ("y", 1), ("z", 2)))
A = (1, 2, 3)


class SortsTest(unittest.TestCase):
    def test_each_of_the_nine(self):
        asked = (
            [], [(A, A)], [(A, A)], [(A, A)], [], [(A, A)], [], [(A, A)], [(A, A, A)])
        for saying, told in zip(NINE, asked):
            with self.subTest(saying=saying):
                self.assertEqual(trails(SPEECH, saying, A, 4), told)

    def test_each_of_the_nine_from_another_letter(self):
        b = (0, 1, 0)
        asked = (
            [], [(b, b)], [], [(b, (0, 1, 3))], [(b, b)], [(b, b)], [(b, (0, 0, 0))], [(b, b), (b, (1, 1, 0))],
            [(b, b, b)])
        for saying, told in zip(NINE, asked):
            with self.subTest(saying=saying):
                self.assertEqual(trails(SPEECH, saying, b, 4), told)

    def test_is_and_not_for_every_letter(self):
        for place, (field, count) in enumerate(SPEECH):
            for value in range(count):
                for letter in letters(SPEECH):
                    so = letter[place] == value
                    self.assertEqual(trails(SPEECH, ("is", field, value), letter, 0), [(letter, letter)] * so)
                    self.assertEqual(
                        trails(SPEECH, ("not", ("is", field, value)), letter, 0), [(letter, letter)] * (not so))

    def test_then_leaves_out_the_letter_between(self):
        put = ("put", "gate", 0)
        self.assertEqual(trails(SPEECH, then(put, NOTE), A, 1), [(A, (1, 0, 3), (1, 0, 3))])
        self.assertEqual(trails(SPEECH, then(NOTE, put), A, 1), [(A, A, (1, 0, 3))])
        self.assertEqual(
            trails(SPEECH, then(NOTE, put, NOTE, ("put", "tag", 0)), A, 2), [(A, A, (1, 0, 3), (1, 0, 0))])

    def test_then_goes_on_from_the_letter_at_the_end(self):
        self.assertEqual(trails(ONE, then(("is", "f", 0), ("put", "f", 1), ("is", "f", 0)), (0,), 0), [])
        self.assertEqual(trails(ONE, then(("put", "f", 1), ("is", "f", 1)), (0,), 0), [((0,), (1,))])

    def test_either_tells_each_once(self):
        self.assertEqual(trails(ONE, either(ALL, ALL), (1,), 0), [((1,), (1,))])
        self.assertEqual(trails(ONE, either(NOTE, NOTE, NOTE), (1,), 1), [((1,), (1,), (1,))])
        self.assertEqual(
            trails(ONE, either(("put", "f", 2), NOTE, ("put", "f", 0)), (1,), 1),
            [((1,), (0,)), ((1,), (2,)), ((1,), (1,), (1,))])

    def test_again(self):
        a, b, c = (0,), (1,), (2,)
        step = either(then(("is", "f", 0), ("put", "f", 1)), then(("is", "f", 1), ("put", "f", 2)))
        self.assertEqual(trails(ONE, ("again", step), a, 0), [(a, a), (a, b), (a, c)])
        self.assertEqual(trails(ONE, ("again", step), b, 0), [(b, b), (b, c)])
        self.assertEqual(trails(ONE, ("again", step), c, 0), [(c, c)])

    def test_again_by_way_of_each_letter(self):
        for first, middle, last in itertools.permutations(range(3)):
            step = either(
                then(("is", "f", first), ("put", "f", middle)), then(("is", "f", middle), ("put", "f", last)))
            self.assertEqual(
                trails(ONE, ("again", step), (first,), 0), [((first,), (value,)) for value in range(3)])

    def test_again_of_what_has_no_end_of_trails(self):
        for inner in (ALL, ("put", "f", 0), NONE, ("again", ALL), ("is", "f", 0), ("again", ("again", ALL))):
            self.assertEqual(trails(ONE, ("again", inner), (0,), 4), [((0,), (0,))], inner)
        self.assertEqual(trails(ONE, ("again", ("put", "f", 2)), (0,), 4), [((0,), (0,)), ((0,), (2,))])
        noted = ("again", either(ALL, NOTE))
        self.assertEqual(trails(ONE, noted, (1,), 3), [((1,),) * times for times in range(2, 6)])

    def test_a_note_within_again_and_the_count_as_a_bound(self):
        told = [((0,),) * times for times in range(2, 7)]
        for count in range(5):
            self.assertEqual(trails(ONE, ("again", NOTE), (0,), count), told[:count + 1])
            self.assertEqual(trails(ONE, ("again", then(NOTE, NOTE)), (0,), count), told[:count + 1:2])
            self.assertEqual(trails(ONE, NOTE, (0,), count), told[1:2] if count else [])
            self.assertEqual(trails(ONE, then(NOTE, NOTE, NOTE), (0,), count), told[3:4] if count >= 3 else [])
            self.assertEqual(trails(ONE, ALL, (0,), count), told[:1])

    def test_a_test_does_not_end_a_trail_that_was_noted(self):
        saying = then(NOTE, either(("is", "f", 0), then(("put", "f", 0), NOTE)))
        self.assertEqual(trails(ONE, saying, (1,), 4), [((1,), (1,), (0,), (0,))])
        self.assertEqual(trails(ONE, saying, (1,), 1), [])


class OrderTest(unittest.TestCase):
    def test_the_shorter_first_then_as_tuples(self):
        any_of = anything(ONE)
        saying = ("again", either(then(any_of, NOTE), then(NOTE, any_of), any_of))
        for count in range(5):
            told = trails(ONE, saying, (1,), count)
            self.assertEqual(told, in_order(set(told)))
            self.assertEqual(len(told), sum(3 ** times for times in range(1, count + 2)))

    def test_written_out(self):
        saying = either(
            then(("put", "f", 2), NOTE, ("put", "f", 0)), then(NOTE, ("put", "f", 2)), ("put", "f", 1),
            then(("put", "f", 2), NOTE), NOTE)
        a, b, c = (0,), (1,), (2,)
        self.assertEqual(
            trails(ONE, saying, a, 4), [(a, b), (a, a, a), (a, a, c), (a, c, a), (a, c, c)])

    def test_kinds(self):
        told = trails(SPEECH, either(NOTE, ALL, ("put", "tag", 0)), A, 1)
        self.assertIs(type(told), list)
        for trail in told:
            self.assertIs(type(trail), tuple)
            for letter in trail:
                self.assertIs(type(letter), tuple)
                self.assertEqual([type(value) for value in letter], [int] * 3)

    def test_many_sayings_as_the_document_says(self):
        chance = random.Random(7)
        for number in range(700):
            speech = SPEECHES[number % 3]
            saying = some_saying(chance, speech, chance.randrange(1, 26), number % 4)
            letter = chance.choice(letters(speech))
            for count in range(5):
                asked = in_order(plain_trails(speech, saying, letter, count))
                with self.subTest(speech=speech, saying=saying, letter=letter, count=count):
                    if len(asked) <= 400:
                        self.assertEqual(trails(speech, saying, letter, count), asked)
                    else:
                        with self.assertRaises(TooGreat):
                            trails(speech, saying, letter, count)


class TooGreatTest(unittest.TestCase):
    speech = (("a", 5), ("b", 4))
    great = (("a", 2), ("b", 3), ("c", 4))

    def setUp(self):
        self.begun = time.process_time()

    def tearDown(self):
        self.assertLess(time.process_time() - self.begun, 4)

    def refused(self, speech, saying, letter, count):
        with self.assertRaises(TooGreat) as caught:
            trails(speech, saying, letter, count)
        self.assertEqual((caught.exception.number, caught.exception.most), (401, 400))
        self.assertIs(type(caught.exception.number), int)

    def test_just_400_and_401(self):
        any_of = anything(self.speech)
        whole = then(any_of, NOTE, any_of)
        for letter in ((0, 0), (4, 3)):
            told = trails(self.speech, whole, letter, 1)
            self.assertEqual(len(told), 400)
            self.assertEqual(told, [(letter, b, c) for b in letters(self.speech) for c in letters(self.speech)])
            self.assertEqual(len(trails(self.speech, whole, letter, 4)), 400)
            self.assertEqual(trails(self.speech, whole, letter, 0), [])
            self.refused(self.speech, either(whole, ALL), letter, 1)
            self.assertEqual(trails(self.speech, either(whole, ALL), letter, 0), [(letter, letter)])
            self.refused(self.speech, either(ALL, whole), letter, 2)
            longer = either(whole, then(NOTE, NOTE))
            self.assertEqual(len(trails(self.speech, longer, letter, 1)), 400)
            self.refused(self.speech, longer, letter, 2)

    def test_just_400_behind_shorter_ones(self):
        any_of = anything(self.speech)
        less = then(any_of, NOTE, any_of, ("not", just(self.speech, (2, 2))))
        whole = either(ALL, less, then(NOTE, NOTE, anything(self.speech)))
        self.assertEqual(len(trails(self.speech, less, (0, 0), 1)), 380)
        self.assertEqual(len(trails(self.speech, whole, (0, 0), 1)), 381)
        self.refused(self.speech, whole, (0, 0), 2)
        fewer = either(less, then(NOTE, NOTE, any_of))
        self.assertEqual(len(trails(self.speech, fewer, (0, 0), 2)), 400)
        self.refused(self.speech, either(fewer, then(NOTE, NOTE, NOTE)), (0, 0), 3)

    def test_millions(self):
        any_of = anything(self.great)
        for saying in (
                ("again", either(any_of, NOTE)),
                then(("again", then(any_of, NOTE)), any_of),
                then(any_of, NOTE, any_of, NOTE, any_of, NOTE, any_of)):
            self.refused(self.great, saying, A, 4)
            self.refused(self.great, saying, A, 3)
        late = then(any_of, NOTE, any_of, NOTE, any_of, NOTE, any_of, NOTE, any_of)
        self.refused(self.great, late, A, 4)
        self.assertEqual(trails(self.great, late, A, 3), [])

    def test_many_beginnings_that_come_to_no_end(self):
        any_of = anything(self.great)
        forest = ("again", then(any_of, NOTE))
        for count in range(5):
            self.assertEqual(trails(self.great, then(forest, NONE), A, count), [])
            self.assertEqual(trails(self.great, either(ALL, then(forest, any_of, NONE)), A, count), [(A, A)])
            self.assertEqual(
                trails(self.great, then(forest, NOTE, ("is", "a", 0), NOTE, ("is", "a", 1)), A, count), [])

    def test_beginnings_that_end_only_with_more_notes(self):
        any_of = anything(self.great)
        saying = then(any_of, NOTE, any_of, NOTE, any_of, NOTE, just(self.great, A))
        for count in range(3):
            self.assertEqual(trails(self.great, saying, A, count), [])
        self.refused(self.great, saying, A, 3)
        twice = ("again", then(any_of, NOTE, any_of, NOTE, just(self.great, A)))
        self.assertEqual(trails(self.great, twice, A, 1), [(A, A)])
        self.assertEqual(len(trails(self.great, twice, A, 3)), 25)
        self.refused(self.great, twice, A, 4)

    def test_few_ends_behind_many_beginnings(self):
        any_of = anything(self.great)
        b = (0, 1, 2)
        to_b, to_a = just(self.great, b), just(self.great, A)
        saying = then(any_of, NOTE, to_b, any_of, NOTE, to_a, any_of, NOTE, ("is", "a", 0))
        told = trails(self.great, saying, A, 4)
        self.assertEqual(told, [(A, b, A, c, c) for c in letters(self.great) if c[0] == 0])

    def test_the_same_behind_a_refusal(self):
        whole = ("again", either(anything(self.speech), NOTE))
        ahead = trails(self.speech, whole, (1, 1), 0)
        self.refused(self.speech, whole, (1, 1), 4)
        self.assertEqual(trails(self.speech, whole, (1, 1), 0), ahead)
        self.assertEqual(ahead, [((1, 1), b) for b in letters(self.speech)])


class OwnTest(unittest.TestCase):
    def test_what_is_told_is_the_askers_own(self):
        saying = ("again", either(NOTE, ("put", "tag", 1)))
        plain = ("again", ("put", "tag", 1))
        told = trails(SPEECH, saying, A, 3)
        ends = done(SPEECH, plain, A)
        kept = list(told)
        told.append("more")
        told[0] = "other"
        ends.clear()
        self.assertEqual(trails(SPEECH, saying, A, 3), kept)
        self.assertEqual(done(SPEECH, plain, A), [(1, 2, 1), (1, 2, 3)])
        told.clear()
        self.assertEqual(trails(SPEECH, saying, A, 3), kept)

    def test_in_one_speech_then_in_another_then_in_the_first_again(self):
        saying = ("again", either(("put", "x", 1), NOTE, ("put", "y", 0)))
        plain = ("again", either(("put", "x", 1), ("put", "y", 0)))
        test = either(("is", "x", 1), ("is", "y", 0))
        speeches = (
            (("x", 2), ("y", 3)), (("y", 3), ("x", 2)), (("x", 3), ("y", 3)), (("x", 2), ("y", 3), ("z", 2)),
            (("z", 2), ("y", 3), ("x", 2)), (("x", 2), ("y", 3)))
        for speech in speeches + speeches[::-1]:
            for letter in letters(speech):
                with self.subTest(speech=speech, letter=letter):
                    asked = in_order(plain_trails(speech, saying, letter, 3))
                    self.assertEqual(trails(speech, saying, letter, 3), asked)
                    ends = [trail[-1] for trail in in_order(plain_trails(speech, plain, letter, 0))]
                    self.assertEqual(done(speech, plain, letter), ends)
                    self.assertIs(is_so(speech, test, letter), bool(plain_trails(speech, test, letter, 0)))


class DoneTest(unittest.TestCase):
    def test_written_out(self):
        self.assertEqual(done(ONE, NONE, (1,)), [])
        self.assertEqual(done(ONE, ALL, (1,)), [(1,)])
        self.assertEqual(done(ONE, either(("put", "f", 2), ALL, ("put", "f", 0)), (1,)), [(0,), (1,), (2,)])
        self.assertEqual(done(ONE, either(("put", "f", 2), ("put", "f", 0), ("put", "f", 2)), (1,)), [(0,), (2,)])

    def test_each_letter_of_each_speech(self):
        chance = random.Random(11)
        for number in range(250):
            speech = (ONE, SMALL, SPEECH)[number % 3]
            saying = some_saying(chance, speech, chance.randrange(1, 40), 0)
            for letter in letters(speech):
                told = done(speech, saying, letter)
                asked = sorted(trail[-1] for trail in plain_trails(speech, saying, letter, 0))
                self.assertEqual(told, asked, (speech, saying, letter))
                self.assertIs(type(told), list)

    def test_no_plain_wherever_the_note_stands(self):
        for saying in (
                NOTE, then(NONE, NOTE), either(ALL, NOTE), ("again", NOTE), then(ALL, ("again", ("again", NOTE))),
                then(("is", "gate", 0), ("is", "gate", 1), NOTE), then(NOTE, ("not", ALL)),
                then(NONE, ("again", NOTE))):
            for letter in letters(SPEECH):
                with self.assertRaises(NoPlain) as caught:
                    done(SPEECH, saying, letter)
                self.assertIs(caught.exception.saying, saying)

    def test_a_field_called_note_is_no_note(self):
        speech = (("note", 2),)
        self.assertEqual(done(speech, then(("is", "note", 0), ("put", "note", 1)), (0,)), [(1,)])

    def test_what_must_saying_refuses_comes_first(self):
        for saying, error, name, value in (
                (then(NOTE, ("is", "colour", 0)), NoField, "field", "colour"),
                (either(NOTE, ("put", "gate", 3)), NoValue, "value", 3),
                (then(NOTE, ("not", then(ALL, NOTE))), NoTest, "saying", then(ALL, NOTE))):
            with self.assertRaises(error) as caught:
                done(SPEECH, saying, A)
            self.assertEqual(getattr(caught.exception, name), value)


class IsSoTest(unittest.TestCase):
    def test_true_or_false_for_each_letter(self):
        chance = random.Random(13)
        for number in range(250):
            speech = (ONE, SMALL, SPEECH)[number % 3]
            test = some_test(chance, speech, chance.randrange(1, 30))
            for letter in letters(speech):
                self.assertIs(is_so(speech, test, letter), bool(plain_trails(speech, test, letter, 0)), (test, letter))

    def test_written_out(self):
        self.assertIs(is_so(SPEECH, ALL, A), True)
        self.assertIs(is_so(SPEECH, NONE, A), False)
        self.assertIs(is_so(SPEECH, then(("is", "gate", 2), ("is", "tag", 3)), A), True)
        self.assertIs(is_so(SPEECH, then(("is", "gate", 2), ("is", "tag", 2)), A), False)
        self.assertIs(is_so(SPEECH, ("not", either(("is", "gate", 1), ("is", "tag", 3))), A), False)
        for letter in letters(SPEECH):
            self.assertEqual([b for b in letters(SPEECH) if is_so(SPEECH, just(SPEECH, letter), b)], [letter])

    def test_no_test(self):
        for saying in (
                NOTE, ("put", "gate", 0), ("again", ALL), then(ALL, NOTE), either(ALL, made_to(SPEECH, A)),
                then(NONE, ("again", NONE))):
            with self.assertRaises(NoTest) as caught:
                is_so(SPEECH, saying, A)
            self.assertIs(caught.exception.saying, saying)

    def test_what_must_saying_refuses_comes_first(self):
        for saying, error, name, value in (
                (("put", "colour", 0), NoField, "field", "colour"),
                (then(NOTE, ("is", "gate", 3)), NoValue, "value", 3),
                (("put", "gate", -1), NoValue, "value", -1),
                (("again", ("not", NOTE)), NoTest, "saying", NOTE),
                (("not", ("again", ("is", "colour", 0))), NoTest, "saying", ("again", ("is", "colour", 0)))):
            with self.assertRaises(error) as caught:
                is_so(SPEECH, saying, A)
            self.assertEqual(getattr(caught.exception, name), value)


if __name__ == "__main__":
    unittest.main()
