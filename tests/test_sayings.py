import itertools
import unittest

from made import HOLDING, NINE, SPEECH, chain, depth, held, parts, told_size, tree
from switchsay.errors import NoField, NoTest, NoValue, SwitchError
from switchsay.sayings import is_test, must_saying, notes_in

FAR = (10 ** 60 - 1, 1 - 10 ** 60)
TESTS = (
    ("none",),
    ("all",),
    ("is", "gate", 2),
    ("not", ("all",)),
    ("not", ("not", ("none",))),
    ("either", ("is", "tag", 0), ("not", ("is", "tag", 1))),
    ("then", ("either", ("all",), ("none",)), ("not", ("then", ("all",), ("all",)))),
)
NO_TESTS = (
    ("note",),
    ("put", "tag", 3),
    ("again", ("all",)),
    ("not", ("note",)),
    ("not", ("not", ("put", "tag", 0))),
    ("either", ("all",), ("note",)),
    ("either", ("again", ("none",)), ("none",)),
    ("then", ("put", "gate", 0), ("all",)),
    ("then", ("all",), ("either", ("all",), ("not", ("again", ("all",))))),
)


def plain_is_test(saying):
    return saying[0] not in ("note", "put", "again") and all(plain_is_test(one) for one in held(saying))


def plain_notes(saying):
    return (saying[0] == "note") + sum(plain_notes(one) for one in held(saying))


def plain_fault(speech, saying):
    """The first fault by the document's words: a class and its field, or None."""
    if saying[0] in ("is", "put"):
        counts = dict(speech)
        if saying[1] not in counts:
            return (NoField, saying[1])
        if saying[2] not in range(counts[saying[1]]):
            return (NoValue, saying[2])
    if saying[0] == "not" and not plain_is_test(saying[1]):
        return (NoTest, saying[1])
    for one in held(saying):
        fault = plain_fault(speech, one)
        if fault:
            return fault
    return None


def told_fault(speech, saying):
    try:
        told = must_saying(speech, saying)
    except NoField as error:
        return (NoField, error.field)
    except NoValue as error:
        return (NoValue, error.value)
    except NoTest as error:
        return (NoTest, error.saying)
    return told


def one_level_more(sayings):
    more = list(sayings)
    for one in sayings:
        more.extend([("not", one), ("again", one)])
    for one, other in itertools.product(sayings, repeat=2):
        more.extend([("either", one, other), ("then", one, other)])
    return more


def many_sayings():
    leaves = (("all",), ("note",), ("is", "gate", 0), ("is", "no", 9), ("put", "tag", 4))
    return one_level_more(one_level_more(leaves))


class MustSayingTest(unittest.TestCase):
    def refused(self, saying, error, name, value, speech=SPEECH):
        with self.assertRaises(error) as caught:
            must_saying(speech, saying)
        self.assertIs(type(caught.exception), error)
        self.assertEqual(getattr(caught.exception, name), value)

    def test_none_for_each_sort(self):
        for saying in NINE + TESTS:
            with self.subTest(saying=saying):
                self.assertIsNone(must_saying(SPEECH, saying))

    def test_every_field_and_value_of_the_speech(self):
        for sort in ("is", "put"):
            for field, count in SPEECH:
                for value in range(count):
                    self.assertIsNone(must_saying(SPEECH, (sort, field, value)))

    def test_no_field(self):
        for sort in ("is", "put"):
            for field in ("colour", "", "Gate", "gates", "note", "is", "~" * 60):
                self.refused((sort, field, 0), NoField, "field", field)

    def test_no_value(self):
        for sort in ("is", "put"):
            for field, count in SPEECH:
                for value in (-1, count, count + 1, *FAR):
                    self.refused((sort, field, value), NoValue, "value", value)

    def test_no_field_ahead_of_no_value(self):
        for sort in ("is", "put"):
            for value in (-1, 99, *FAR):
                self.refused((sort, "colour", value), NoField, "field", "colour")

    def test_no_test_in_a_not(self):
        for saying in NO_TESTS:
            self.refused(("not", saying), NoTest, "saying", saying)
            self.refused(("not", ("not", saying)), NoTest, "saying", ("not", saying))
            for sort in ("either", "then"):
                for inner in ((sort, ("all",), saying), (sort, saying, ("all",))):
                    self.refused(("not", inner), NoTest, "saying", inner)

    def test_a_saying_that_is_no_test_stands_well_outside_a_not(self):
        for saying in (("note",), ("put", "tag", 3), ("again", ("all",))):
            for whole in (saying, ("either", saying, ("not", ("all",))), ("again", ("then", ("all",), saying))):
                self.assertIsNone(must_saying(SPEECH, whole))

    def test_the_field_is_the_thing_handed_in(self):
        inner = ("either", ("note",), ("all",))
        with self.assertRaises(NoTest) as caught:
            must_saying(SPEECH, ("then", ("all",), ("not", inner)))
        self.assertIs(caught.exception.saying, inner)

    def test_no_test_ahead_of_what_stands_in_the_not(self):
        for inner in (("put", "colour", 0), ("then", ("is", "gate", 9), ("note",)), ("again", ("is", "colour", 0))):
            self.refused(("not", inner), NoTest, "saying", inner)
        self.refused(("not", ("is", "colour", 9)), NoField, "field", "colour")
        self.refused(("not", ("not", ("is", "gate", 9))), NoValue, "value", 9)

    def test_the_first_fault_from_left_to_right(self):
        faults = (
            (("is", "left", 0), NoField, "field", "left"),
            (("put", "gate", 8), NoValue, "value", 8),
            (("not", ("note",)), NoTest, "saying", ("note",)),
        )
        for first in faults:
            for second in faults:
                for sort in ("either", "then"):
                    self.refused((sort, first[0], second[0]), *first[1:])
                    self.refused((sort, ("again", first[0]), second[0]), *first[1:])
                    self.refused((sort, ("then", ("all",), first[0]), second[0]), *first[1:])
                    self.refused((sort, ("all",), ("either", first[0], second[0])), *first[1:])

    def test_many_sayings_as_the_document_says(self):
        for saying in many_sayings():
            self.assertEqual(told_fault(SPEECH, saying), plain_fault(SPEECH, saying), saying)

    def test_fields_called_like_a_sort(self):
        speech = (("note", 2), ("put", 3), ("not", 4))
        for field, count in speech:
            for sort in ("is", "put"):
                self.assertIsNone(must_saying(speech, (sort, field, count - 1)))
                self.refused((sort, field, count), NoValue, "value", count, speech)
            self.assertIsNone(must_saying(speech, ("not", ("is", field, 0))))

    def test_the_same_is_told_behind_a_refusal(self):
        saying = ("then", ("is", "gate", 2), ("put", "tag", 3))
        wrong = ("then", ("is", "gate", 2), ("put", "tag", 4))
        for _ in range(3):
            self.assertIsNone(must_saying(SPEECH, saying))
            self.refused(wrong, NoValue, "value", 4)
            self.refused(("not", wrong), NoTest, "saying", wrong)
            self.assertEqual((is_test(saying), notes_in(saying)), (False, 0))
        self.assertEqual(saying, ("then", ("is", "gate", 2), ("put", "tag", 3)))
        self.assertEqual(wrong, ("then", ("is", "gate", 2), ("put", "tag", 4)))
        self.assertEqual(SPEECH, (("switch", 2), ("gate", 3), ("tag", 4)))


class IsTestTest(unittest.TestCase):
    def test_each_sort(self):
        asked = [True, True, True, False, True, True, False, False, False]
        self.assertEqual([is_test(saying) for saying in NINE], asked)

    def test_sayings_within_sayings(self):
        for saying in TESTS:
            self.assertIs(is_test(saying), True)
        for saying in NO_TESTS:
            self.assertIs(is_test(saying), False)

    def test_an_again_of_a_test_is_none(self):
        for saying in TESTS:
            self.assertIs(is_test(("again", saying)), False)
            self.assertIs(is_test(("not", saying)), True)

    def test_fields_called_like_a_sort(self):
        for field in ("note", "put", "again", "not", "is"):
            self.assertIs(is_test(("is", field, 0)), True)
            self.assertIs(is_test(("put", field, 0)), False)
            self.assertIs(is_test(("not", ("is", field, 0))), True)

    def test_without_looking_through(self):
        for value in (-1, 99, *FAR):
            self.assertIs(is_test(("not", ("is", "colour", value))), True)
            self.assertIs(is_test(("not", ("put", "colour", value))), False)

    def test_many_sayings(self):
        for saying in many_sayings():
            self.assertIs(is_test(saying), plain_is_test(saying), saying)


class NotesInTest(unittest.TestCase):
    def test_each_sort(self):
        self.assertEqual([notes_in(saying) for saying in NINE], [0] * 8 + [1])

    def test_sayings_within_sayings(self):
        note = ("note",)
        self.assertEqual(notes_in(("again", note)), 1)
        self.assertEqual(notes_in(("not", note)), 1)
        self.assertEqual(notes_in(("not", ("not", ("then", note, note)))), 2)
        self.assertEqual(notes_in(("either", note, ("all",))), 1)
        self.assertEqual(notes_in(("then", ("all",), note)), 1)
        self.assertEqual(notes_in(("either", ("then", note, note), note)), 3)
        self.assertEqual(notes_in(tree("then", note, 4)), 16)

    def test_fields_called_like_a_sort(self):
        for sort in ("is", "put"):
            self.assertEqual(notes_in((sort, "note", 0)), 0)
            self.assertEqual(notes_in(("then", (sort, "note", 0), ("note",))), 1)

    def test_without_looking_through(self):
        for value in (-1, 99, *FAR):
            self.assertEqual(notes_in(("either", ("is", "colour", value), ("note",))), 1)
            self.assertEqual(notes_in(("not", ("put", "colour", value))), 0)

    def test_a_whole_number(self):
        for saying in NINE + NO_TESTS:
            self.assertIs(type(notes_in(saying)), int)

    def test_many_sayings(self):
        for saying in many_sayings():
            self.assertEqual(notes_in(saying), plain_notes(saying), saying)


class EdgesTest(unittest.TestCase):
    def check(self, made):
        """`made` makes the saying with the leaf handed in at its right end."""
        self.assertIsNone(must_saying(SPEECH, made(("is", "gate", 2))))
        for leaf in (("is", "colour", 0), ("is", "gate", 3), ("not", ("note",))):
            whole = made(leaf)
            fault = told_fault(SPEECH, whole)
            self.assertIsNotNone(fault)
            self.assertEqual(fault, plain_fault(SPEECH, whole))
        for leaf in (("is", "colour", 9), ("note",), ("put", "tag", 0), ("again", ("all",))):
            whole = made(leaf)
            self.assertIs(is_test(whole), plain_is_test(whole))
            self.assertEqual(notes_in(whole), plain_notes(whole))

    def test_a_hundred_and_twenty_parts(self):
        def made(leaf):
            return ("either", tree("then", ("all",), 5), ("then", tree("either", ("all",), 4), chain("not", leaf, 23)))

        self.assertEqual(parts(made(("all",))), 120)
        self.assertIs(is_test(made(("all",))), True)
        self.assertIs(is_test(made(("note",))), False)
        self.check(made)

    def test_thirty_one_within_another(self):
        for sort in ("not", "again"):
            def made(leaf):
                return chain(sort, leaf, 29)

            self.assertEqual(depth(made(("all",))), 30)
            self.check(made)

    def test_the_either_of_two_that_were_told_of_nets(self):
        for sort in ("not", "again"):
            def made(leaf):
                return ("either", told_size(("all",), ("all",), sort), told_size(("all",), leaf, sort))

            self.assertEqual(depth(made(("all",))), 81)
            self.assertGreater(parts(made(("all",))), 3800)
            self.assertIs(is_test(made(("all",))), sort == "not")
            self.check(made)

    def test_notes_of_the_either_of_two(self):
        one = told_size(("put", "tag", 1), ("then", ("note",), ("again", ("note",))), "again")
        self.assertEqual(notes_in(("either", one, one)), 4)
        self.assertIsNone(must_saying(SPEECH, ("either", one, one)))
        self.assertEqual(notes_in(told_size(("note",), ("note",), "again")), 60 * 16 + 1)

    def test_more_notes_and_parts_than_bounded_are_not_refused(self):
        self.assertIsNone(must_saying(SPEECH, tree("then", ("note",), 8)))

    def test_depth_does_not_hang_on_recursion(self):
        for sort, test in (("again", False), ("not", True)):
            deep = chain(sort, ("is", "gate", 2), 1500)
            self.assertIsNone(must_saying(SPEECH, deep))
            self.assertIs(is_test(deep), test)
            self.assertEqual(notes_in(deep), 0)
        with self.assertRaises(SwitchError):
            must_saying(SPEECH, chain("again", ("is", "gate", 3), 1500))


class MadeTest(unittest.TestCase):
    def test_the_nine_sorts_are_nine(self):
        self.assertEqual(len({saying[0] for saying in NINE}), 9)
        self.assertEqual({saying[0] for saying in NINE if held(saying)}, set(HOLDING))


if __name__ == "__main__":
    unittest.main()
