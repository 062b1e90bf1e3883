import unittest

from switchsay.errors import NoField, NoNet, NoPlain, NoTest, NoValue, SwitchError, TooGreat

CLASSES = (NoField, NoValue, NoTest, NoPlain, TooGreat, NoNet)


class ErrorsTest(unittest.TestCase):
    def test_all_stand_under_switch_error_and_value_error(self):
        self.assertTrue(issubclass(SwitchError, ValueError))
        for one in CLASSES:
            with self.subTest(one=one.__name__):
                self.assertTrue(issubclass(one, SwitchError))
                self.assertTrue(issubclass(one, ValueError))

    def test_none_stands_under_another(self):
        for one in CLASSES:
            for other in CLASSES:
                with self.subTest(one=one.__name__, other=other.__name__):
                    self.assertEqual(issubclass(one, other), one == other)
        for one in CLASSES:
            self.assertFalse(issubclass(SwitchError, one))

    def test_fields_are_just_what_it_was_made_of(self):
        deep = ("note",)
        for _ in range(3000):
            deep = ("again", deep)
        made = (
            (NoField, "field", ("colour", "", "{field} {0}", "~ !\"'\\", "note")),
            (NoValue, "value", (0, 7, -1, 10 ** 60 - 1, 1 - 10 ** 60)),
            (NoTest, "saying", (("note",), ("not", ("put", "tag", 9)), deep)),
            (NoPlain, "saying", (("note",), ("then", ("note",), ("all",)), deep)),
        )
        for one, name, values in made:
            for value in values:
                error = one(value)
                self.assertIs(getattr(error, name), value)
                self.assertIsInstance(str(error), str)

    def test_too_great_has_number_then_most(self):
        error = TooGreat(401, 400)
        self.assertEqual((error.number, error.most), (401, 400))
        self.assertIsInstance(str(error), str)

    def test_each_object_has_its_own_fields(self):
        first = NoField("one")
        second = NoField("two")
        self.assertEqual((first.field, second.field), ("one", "two"))
        first = TooGreat(5, 4)
        second = TooGreat(7, 6)
        self.assertEqual((first.number, first.most, second.number, second.most), (5, 4, 7, 6))

    def test_made_of_a_text(self):
        for one in (SwitchError, NoNet):
            self.assertEqual(str(one("too few rules")), "too few rules")

    def test_can_be_taken_by_the_class_above(self):
        for error in (NoField("a"), NoValue(1), NoTest(("note",)), NoPlain(("note",)), TooGreat(2, 1), NoNet("x")):
            with self.assertRaises(SwitchError):
                raise error


if __name__ == "__main__":
    unittest.main()
