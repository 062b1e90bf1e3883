import random
import unittest

from made import ALL, NINE, NONE, NOTE, SMALL, SPEECH, anything, either, letters, plain_trails, some_saying, then
from switchsay.errors import NoField, NoTest, NoValue
from switchsay.machines import Machine
from switchsay.sayings import notes_in

ONE = (("f", 3),)
SPEECHES = (ONE, SMALL, (("x", 2), ("y", 1), ("z", 2)))
WRITTEN = (
    NONE,
    ALL,
    ("again", ALL),
    NOTE,
    then(NONE, NOTE),
    ("again", NOTE),
    ("again", either(NOTE, ("put", "b", 1))),
    then(NOTE, ("put", "a", 1), NOTE),
    either(NOTE, then(NOTE, ("put", "b", 0))),
    ("again", then(NOTE, either(("put", "a", 0), then(("put", "a", 1), NOTE)))),
    then(("again", then(("put", "b", 1), NOTE)), ("is", "a", 0), ("again", NOTE)),
    ("again", either(then(("is", "a", 0), NOTE, ("put", "a", 1)), then(("is", "a", 1), NOTE, ("put", "a", 0)), NOTE)),
    then(NOTE, ("again", then(anything(SMALL), NOTE)), NOTE),
    ("again", then(("again", NOTE), ("again", then(("put", "a", 1), NOTE)))),
    either(("again", then(NOTE, NOTE)), NOTE),
)


def runs(machine, room, letter, count):
    """All runs from there with at most so many notes, without the letter begun with."""
    told = {(end,) for end in machine.ends(room, letter)}
    if count:
        for noted, later in machine.goes(room, letter):
            told |= {(noted,) + run for run in runs(machine, later, noted, count - 1)}
    return told


class MachineTest(unittest.TestCase):
    def check(self, speech, saying, count=4):
        machine = Machine(speech, saying)
        self.assertIs(type(machine.rooms()), int)
        self.assertIn(machine.rooms(), range(1, notes_in(saying) + 2))
        for room in range(machine.rooms()):
            for letter in letters(speech):
                self.check_told(speech, machine, machine.ends(room, letter), machine.goes(room, letter))
        for letter in letters(speech):
            told = {(letter,) + run for run in runs(machine, 0, letter, count)}
            self.assertEqual(told, plain_trails(speech, saying, letter, count))

    def check_told(self, speech, machine, ends, goes):
        self.assertEqual((type(ends), type(goes)), (list, list))
        self.assertEqual(ends, sorted(set(ends)))
        self.assertEqual(goes, sorted(set(goes)))
        self.assertLessEqual(set(ends), set(letters(speech)))
        for pair in goes:
            self.assertIs(type(pair), tuple)
            self.assertEqual(len(pair), 2)
            self.assertIn(pair[0], letters(speech))
            self.assertIs(type(pair[1]), int)
            self.assertIn(pair[1], range(machine.rooms()))

    def test_each_of_the_nine_sorts(self):
        for saying in NINE:
            with self.subTest(saying=saying):
                self.check(SPEECH, saying)

    def test_written_sayings(self):
        for saying in WRITTEN:
            with self.subTest(saying=saying):
                self.check(SMALL, saying)

    def test_without_notes_there_is_one_room_and_nothing_is_noted(self):
        for saying in NINE[:-1]:
            machine = Machine(SPEECH, saying)
            self.assertEqual(machine.rooms(), 1)
            for letter in letters(SPEECH):
                self.assertEqual(machine.goes(0, letter), [])
                asked = sorted(trail[-1] for trail in plain_trails(SPEECH, saying, letter, 0))
                self.assertEqual(machine.ends(0, letter), asked)

    def test_many_sayings_of_none_to_three_notes(self):
        chance = random.Random(17)
        for number in range(500):
            speech = SPEECHES[number % 3]
            saying = some_saying(chance, speech, chance.randrange(1, 24), number % 4)
            with self.subTest(speech=speech, saying=saying):
                self.check(speech, saying, 3)

    def test_more_notes_than_bounded(self):
        chance = random.Random(19)
        for notes in range(4, 9):
            self.check(ONE, some_saying(chance, ONE, 30, notes), 3)

    def test_what_is_told_is_the_askers_own(self):
        machine = Machine(SMALL, WRITTEN[9])
        same = Machine(SMALL, WRITTEN[9])
        asked = [(room, letter) for room in range(machine.rooms()) for letter in letters(SMALL)]
        kept = [(list(same.ends(*one)), list(same.goes(*one))) for one in asked]
        for one in asked:
            for told in (machine.ends(*one), machine.goes(*one)):
                told.append("more")
                told[0] = "other"
                told.clear()
        self.assertEqual([(machine.ends(*one), machine.goes(*one)) for one in asked], kept)
        self.assertEqual([(same.ends(*one), same.goes(*one)) for one in asked], kept)
        self.assertEqual(machine.rooms(), same.rooms())

    def test_two_machines_of_one_saying_in_two_speeches(self):
        turned = (SMALL[1], SMALL[0])
        greater = (("a", 3), ("b", 2))
        more = (("c", 2), ("a", 2), ("b", 2))
        for saying in WRITTEN[:11]:
            for speech in (SMALL, turned, greater, more, SMALL):
                with self.subTest(speech=speech, saying=saying):
                    self.check(speech, saying, 3)

    def test_a_machine_stays_as_it_is_when_others_are_made(self):
        machine = Machine(SMALL, WRITTEN[10])
        kept = [runs(machine, 0, letter, 3) for letter in letters(SMALL)]
        for saying in WRITTEN:
            Machine((("b", 3), ("a", 2)), saying)
        with self.assertRaises(NoField):
            Machine(SMALL, ("is", "c", 0))
        self.assertEqual([runs(machine, 0, letter, 3) for letter in letters(SMALL)], kept)

    def test_refusals_when_it_is_made(self):
        inner = then(ALL, NOTE)
        for saying, error, name, value in (
                (("is", "colour", 9), NoField, "field", "colour"),
                (then(NOTE, ("put", "gate", 3)), NoValue, "value", 3),
                (either(NONE, ("is", "switch", -1)), NoValue, "value", -1),
                (("again", ("not", inner)), NoTest, "saying", inner),
                (either(("is", "gate", 7), ("not", NOTE)), NoValue, "value", 7),
                (either(("not", NOTE), ("is", "colour", 7)), NoTest, "saying", NOTE)):
            with self.assertRaises(error) as caught:
                Machine(SPEECH, saying)
            self.assertEqual(getattr(caught.exception, name), value)


if __name__ == "__main__":
    unittest.main()
