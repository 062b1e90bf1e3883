import itertools
import unittest

from made import SPEECH
from switchsay.errors import NoField, NoValue
from switchsay.letters import letters_of, put_in

SPEECHES = (
    (("a", 1),),
    (("a", 6),),
    (("abcdefgh", 2),),
    (("a", 1), ("b", 1)),
    (("a", 6), ("b", 4)),
    (("b", 4), ("a", 6)),
    (("a", 3), ("b", 1)),
    (("a", 1), ("b", 6)),
    (("a", 1), ("b", 1), ("c", 1)),
    (("a", 6), ("b", 2), ("c", 2)),
    (("a", 2), ("b", 3), ("c", 4)),
    (("a", 4), ("b", 1), ("c", 6)),
    SPEECH,
)
FAR = (10 ** 60 - 1, 1 - 10 ** 60, 10 ** 59, -(10 ** 59))


class LettersOfTest(unittest.TestCase):
    def test_written_out(self):
        self.assertEqual(letters_of((("a", 1),)), [(0,)])
        self.assertEqual(letters_of((("a", 6),)), [(0,), (1,), (2,), (3,), (4,), (5,)])
        self.assertEqual(letters_of((("z", 2), ("a", 3))), [(0, 0), (0, 1), (0, 2), (1, 0), (1, 1), (1, 2)])
        self.assertEqual(
            letters_of((("a", 2), ("b", 1), ("c", 2))), [(0, 0, 0), (0, 0, 1), (1, 0, 0), (1, 0, 1)])

    def test_all_in_the_order_of_tuples(self):
        for speech in SPEECHES:
            with self.subTest(speech=speech):
                told = letters_of(speech)
                asked = list(itertools.product(*[range(count) for _, count in speech]))
                self.assertEqual(told, asked)
                self.assertEqual(told, sorted(set(told)))

    def test_twenty_four_letters(self):
        for speech in ((("a", 6), ("b", 4)), (("a", 2), ("b", 3), ("c", 4)), (("a", 1), ("b", 4), ("c", 6))):
            self.assertEqual(len(letters_of(speech)), 24)

    def test_kinds(self):
        for speech in SPEECHES:
            told = letters_of(speech)
            self.assertIs(type(told), list)
            for letter in told:
                self.assertIs(type(letter), tuple)
                self.assertEqual(len(letter), len(speech))
                for value in letter:
                    self.assertIs(type(value), int)

    def test_the_list_is_the_askers_own(self):
        for speech in SPEECHES:
            told = letters_of(speech)
            kept = list(told)
            told.append("more")
            told[0] = "other"
            self.assertEqual(letters_of(speech), kept)
            told.clear()
            self.assertEqual(letters_of(speech), kept)


class PutInTest(unittest.TestCase):
    def test_the_value_is_put_and_the_rest_stays(self):
        for speech in SPEECHES:
            for letter in letters_of(speech):
                for place, (field, count) in enumerate(speech):
                    for value in range(count):
                        asked = list(letter)
                        asked[place] = value
                        told = put_in(speech, letter, field, value)
                        self.assertEqual(told, tuple(asked))
                        self.assertIs(type(told), tuple)

    def test_written_out(self):
        letter = (1, 2, 3)
        self.assertEqual(put_in(SPEECH, letter, "switch", 0), (0, 2, 3))
        self.assertEqual(put_in(SPEECH, letter, "gate", 0), (1, 0, 3))
        self.assertEqual(put_in(SPEECH, letter, "tag", 0), (1, 2, 0))
        self.assertEqual(put_in(SPEECH, letter, "tag", 3), (1, 2, 3))
        self.assertEqual(letter, (1, 2, 3))

    def test_no_field(self):
        for field in ("colour", "", "switc", "switchs", "Gate", "gate ", " ", "~" * 60):
            with self.subTest(field=field):
                with self.assertRaises(NoField) as caught:
                    put_in(SPEECH, (0, 0, 0), field, 0)
                self.assertEqual(caught.exception.field, field)

    def test_no_value(self):
        for speech in SPEECHES:
            letter = (0,) * len(speech)
            for field, count in speech:
                for value in (-1, -count, count, count + 1, 7, *FAR):
                    with self.subTest(speech=speech, field=field, value=value):
                        with self.assertRaises(NoValue) as caught:
                            put_in(speech, letter, field, value)
                        self.assertEqual(caught.exception.value, value)
                        self.assertEqual(letter, (0,) * len(speech))

    def test_a_value_of_another_field_is_none_of_this_one(self):
        self.assertEqual(put_in(SPEECH, (0, 0, 0), "tag", 3), (0, 0, 3))
        for field in ("switch", "gate"):
            with self.assertRaises(NoValue):
                put_in(SPEECH, (0, 0, 0), field, 3)

    def test_no_field_ahead_of_no_value(self):
        for value in (-1, 6, *FAR):
            with self.assertRaises(NoField) as caught:
                put_in(SPEECH, (0, 0, 0), "colour", value)
            self.assertEqual(caught.exception.field, "colour")

    def test_the_same_is_told_behind_a_refusal(self):
        ahead = (letters_of(SPEECH), put_in(SPEECH, (1, 2, 3), "gate", 1))
        for field, value in (("colour", 0), ("gate", 3), ("gate", -1)):
            with self.assertRaises(ValueError):
                put_in(SPEECH, (1, 2, 3), field, value)
            self.assertEqual((letters_of(SPEECH), put_in(SPEECH, (1, 2, 3), "gate", 1)), ahead)


if __name__ == "__main__":
    unittest.main()
