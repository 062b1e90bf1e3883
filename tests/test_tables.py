import copy
import random
import unittest

from made import (
    ALL, FAULTS, NINE, NONE, NOTE, SMALL, SPEECH, RefusedTest, anything, either, just, letters, made_to,
    plain_by_table, plain_trails, some_saying, some_test, then)
from switchsay.errors import NoPlain, NoValue
from switchsay.tables import by_table, table_of
from switchsay.trails import done

ONE = (("f", 4),)
SPEECHES = (ONE, (("one", 1),), SMALL, (("a", 5), ("b", 1)), (("x", 2), ("y", 3), ("z", 2)), SPEECH)
EIGHT = [saying for saying in NINE if saying != NOTE]


class ByTableTest(unittest.TestCase):
    def test_the_first_row_that_matches(self):
        table = [
            ((0, None), ((None, 1),)),
            ((0, 0), ((2, 2),)),
            ((None, 0), ((1, None),)),
            ((None, None), ((0, 0),)),
        ]
        for letter, made in (((0, 0), (0, 1)), ((0, 2), (0, 1)), ((2, 0), (1, 0)), ((1, 1), (0, 0))):
            self.assertEqual(by_table(table, letter), [made])
        self.assertEqual(by_table(table[::-1], (0, 2)), [(0, 0)])

    def test_none_matches_any_value_and_nought_does_not(self):
        table = [((None, 0, None), ((None, None, None),))]
        for letter in letters(SPEECH):
            self.assertEqual(by_table(table, letter), [letter] if letter[1] == 0 else [])

    def test_a_match_has_all_its_values(self):
        table = [((1, 2), ((None, None),))]
        told = [letter for letter in letters((("a", 3), ("b", 3))) if by_table(table, letter)]
        self.assertEqual(told, [(1, 2)])

    def test_none_leaves_a_value_and_nought_is_put(self):
        deeds = ((None, None, 3), (None, 0, None), (0, None, None), (None, None, None), (0, 0, 0))
        for deed in deeds:
            made = tuple(own if value is None else value for value, own in zip(deed, (1, 2, 1)))
            self.assertEqual(by_table([((None, None, None), (deed,))], (1, 2, 1)), [made])

    def test_deeds_in_order_and_what_they_make_once(self):
        deeds = ((2, None), (None, 1), (1, 1), (None, None), (0, None), (2, 1), (1, None))
        told = by_table([((None, None), deeds)], (1, 1))
        self.assertEqual(told, [(0, 1), (1, 1), (2, 1)])
        self.assertIs(type(told), list)

    def test_a_row_without_deeds_and_no_row_that_matches(self):
        everything = ((None, None), ((None, None),))
        self.assertEqual(by_table([((1, None), ()), everything], (1, 0)), [])
        self.assertEqual(by_table([((1, None), ()), everything], (0, 0)), [(0, 0)])
        self.assertEqual(by_table([everything, ((1, None), ())], (1, 0)), [(1, 0)])
        self.assertEqual(by_table([((1, None), ((0, 0),))], (0, 1)), [])
        self.assertEqual(by_table([], (0, 1)), [])

    def test_sixty_rows(self):
        chance = random.Random(3)
        for _ in range(100):
            rows = [self.some_row(chance, SPEECH) for _ in range(60)]
            self.check(rows, SPEECH)
        last = [((1, 2, 3), ())] * 59 + [((None, None, 0), ((None, None, 1),))]
        self.assertEqual(by_table(last, (1, 2, 0)), [(1, 2, 1)])
        self.assertEqual(by_table(last, (1, 2, 3)), [])

    def some_row(self, chance, speech):
        def some():
            return tuple(chance.choice([None, chance.randrange(count)]) for _, count in speech)
        return (some(), tuple(some() for _ in range(chance.randrange(4))))

    def check(self, rows, speech):
        before = copy.deepcopy(rows)
        for letter in letters(speech):
            told = by_table(rows, letter)
            asked = list(told)
            self.assertEqual(told, plain_by_table(rows, letter))
            told.append("more")
            told.reverse()
            self.assertEqual(by_table(rows, letter), asked)
        self.assertEqual(rows, before)

    def test_tables_of_every_size_and_speech(self):
        chance = random.Random(4)
        for number in range(300):
            speech = SPEECHES[number % len(SPEECHES)]
            self.check([self.some_row(chance, speech) for _ in range(number % 7)], speech)

    def test_the_table_that_was_changed_is_told_as_it_is_then(self):
        table = [((None,), ((1,),))]
        self.assertEqual(by_table(table, (0,)), [(1,)])
        table[0] = ((None,), ((2,), (3,)))
        self.assertEqual(by_table(table, (0,)), [(2,), (3,)])
        table.clear()
        self.assertEqual(by_table(table, (0,)), [])


class TableOfTest(unittest.TestCase):
    def does(self, speech, table):
        return [plain_by_table(table, letter) for letter in letters(speech)]

    def check(self, speech, saying):
        table = table_of(speech, saying)
        asked = [
            sorted(trail[-1] for trail in plain_trails(speech, saying, letter, 0)) for letter in letters(speech)]
        self.check_kinds(speech, table)
        self.assertLessEqual(len(table), len(asked))
        self.assertEqual(self.does(speech, table), asked)
        self.assertEqual([by_table(table, letter) for letter in letters(speech)], asked)
        self.assertEqual([done(speech, saying, letter) for letter in letters(speech)], asked)
        for place, (match, deeds) in enumerate(table):
            self.assertNotEqual(self.does(speech, table[:place] + table[place + 1:]), asked)
            for at, value in enumerate(match):
                if value is not None:
                    wider = (match[:at] + (None,) + match[at + 1:], deeds)
                    self.assertNotEqual(self.does(speech, table[:place] + [wider] + table[place + 1:]), asked)
        return table

    def check_kinds(self, speech, table):
        self.assertIs(type(table), list)
        for row in table:
            self.assertEqual((type(row), len(row), type(row[1])), (tuple, 2, tuple))
            for values in (row[0],) + row[1]:
                self.assertEqual((type(values), len(values)), (tuple, len(speech)))
                for value, (_, count) in zip(values, speech):
                    self.assertTrue(value is None or type(value) is int and 0 <= value < count)

    def test_the_eight_sorts(self):
        for saying in EIGHT:
            self.check(SPEECH, saying)
        a, b = ("is", "b", 1), ("put", "a", 0)
        for saying in (
                NONE, ALL, a, b, ("not", a), ("not", ALL), either(a, b), either(a, a), then(a, b), then(b, a),
                ("again", b), ("again", then(a, b)), ("again", NONE), either(ALL, b), anything(SMALL)):
            self.check(SMALL, saying)
        a, b = ("is", "f", 3), ("put", "f", 2)
        for saying in (NONE, ALL, a, b, ("not", a), either(a, b), then(a, b), ("again", b), ("again", either(a, b))):
            self.check(ONE, saying)

    def test_small_tables(self):
        self.assertEqual(self.check(SPEECH, NONE), [])
        self.assertEqual(len(self.check(SPEECH, ALL)), 1)
        for value in range(4):
            self.assertEqual(len(self.check(SPEECH, ("put", "tag", value))), 1)
            self.assertEqual(len(self.check(SPEECH, ("is", "tag", value))), 1)

    def test_a_speech_of_one_letter(self):
        speech = (("a", 1), ("b", 1))
        for saying in (ALL, NONE, ("put", "a", 0), ("not", ("is", "b", 0)), ("again", NONE)):
            self.check(speech, saying)

    def test_each_letter_by_itself(self):
        for letter in letters(SPEECH):
            self.check(SPEECH, just(SPEECH, letter))
            self.check(SPEECH, ("not", just(SPEECH, letter)))
            self.check(SPEECH, made_to(SPEECH, letter))

    def test_some_of_all_sizes(self):
        chance = random.Random(5)
        for number in range(240):
            speech = SPEECHES[number % len(SPEECHES)]
            size = chance.choice((3, 5, 9, 14, 24, 40))
            saying = some_test(chance, speech, size) if number % 4 == 0 else some_saying(chance, speech, size, 0)
            with self.subTest(speech=speech, saying=saying):
                self.check(speech, saying)

    def test_letters_that_are_all_done_with_otherwise(self):
        for speech in ((("x", 6), ("y", 4)), SPEECH):
            self.check(speech, anything(speech))
            field, count = speech[1]
            turned = [then(("is", field, value), ("put", field, (value + 1) % count)) for value in range(count)]
            self.check(speech, either(*turned))
            self.check(speech, either(*turned, then(just(speech, letters(speech)[7]), anything(speech))))

    def test_one_saying_in_several_speeches(self):
        saying = either(then(("is", "b", 1), ("put", "a", 0)), ("not", ("is", "a", 1)))
        other = (("b", 3), ("c", 2), ("a", 4))
        first = self.check(SMALL, saying)
        second = self.check(other, saying)
        self.assertNotEqual(first, second)
        self.assertEqual(table_of(SMALL, saying), first)
        self.assertEqual(table_of(other, saying), second)
        self.check(SMALL, saying)

    def test_told_anew(self):
        saying = either(("put", "a", 1), then(("is", "b", 1), ("put", "b", 0)))
        told = table_of(SMALL, saying)
        kept = list(told)
        told.append("more")
        told[0] = "other"
        self.assertEqual(table_of(SMALL, saying), kept)
        told.clear()
        self.assertEqual(table_of(SMALL, saying), kept)
        table_of(SMALL, NONE).append("more")
        self.assertEqual(table_of(SMALL, NONE), [])


class TableRefusalsTest(RefusedTest):
    def ask(self, saying):
        return table_of(SPEECH, saying)

    def test_what_must_saying_refuses(self):
        for fault, error, name, value in FAULTS:
            for saying in (fault, then(NOTE, ("again", fault)), either(fault, ("is", "later", 0))):
                self.refused(self.ask, (saying,), error, name, value)

    def test_then_a_note_wherever_it_stands(self):
        for saying in (NOTE, ("again", NOTE), then(NONE, NOTE), either(ALL, then(("put", "tag", 0), NOTE))):
            with self.assertRaises(NoPlain) as caught:
                table_of(SPEECH, saying)
            self.assertIs(caught.exception.saying, saying)
            self.refused(self.ask, (then(saying, ("is", "gate", -1)),), NoValue, "value", -1)

    def test_told_behind_a_refusal_as_ahead_of_it(self):
        saying = either(("put", "gate", 1), ("is", "tag", 0))
        ahead = table_of(SPEECH, saying)
        for refused in (NOTE, ("is", "no", 0), ("put", "gate", 3), ("not", NOTE)):
            with self.assertRaises(ValueError):
                table_of(SPEECH, refused)
            self.assertEqual(table_of(SPEECH, saying), ahead)


if __name__ == "__main__":
    unittest.main()
