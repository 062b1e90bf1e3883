"""Machines: a saying's trails as runs through rooms.

A machine has room 0, in which its run begins, and a room for each "note" of
its saying, from left to right, in which it is when it was noted there. Its
ways are a list of rows, one for each room. A row has a relation for each room:
at 0 what it may end as, at any other place what it may be noted as next there.
"""

from switchsay.letters import letters_of, place_of
from switchsay.relations import again_and_again, either_of, letters_in, nothing, one_then_other, the_same, where_nothing
from switchsay.sayings import held_in, must_saying, parts_of


# Whatever has rooms and ways has runs; a machine's ways are made of a saying.
class Runs:
    def __init__(self, letters, ways):
        self.letters = letters
        self.ways = ways

    def rooms(self):
        return len(self.ways)

    def ends(self, room, letter):
        return self.ends_from((room,), letter)

    def goes(self, room, letter):
        told = []
        for noted, rooms in self.goes_from((room,), letter):
            told.extend([(noted, other) for other in rooms])
        return told

    def ends_from(self, rooms, letter):
        return letters_in(self.letters, self.masks_from(rooms, letter)[0])

    # Tuples (letter, rooms), in order: noted as that letter it can be in just
    # these rooms, which are some.
    def goes_from(self, rooms, letter):
        masks = self.masks_from(rooms, letter)
        told = []
        for place, noted in enumerate(self.letters):
            bit = 1 << place
            later = tuple([room for room in range(1, len(masks)) if masks[room] & bit])
            if later:
                told.append((noted, later))
        return told

    def masks_from(self, rooms, letter):
        place = self.letters.index(letter)
        masks = [0] * len(self.ways)
        for room in rooms:
            masks = [mask | relation[place] for mask, relation in zip(masks, self.ways[room])]
        return masks


class Machine(Runs):
    def __init__(self, speech, saying):
        must_saying(speech, saying)
        letters = letters_of(speech)
        Runs.__init__(self, letters, ways_of(speech, letters, saying))


# From right to left the sayings in a part are done ahead of it, and the first
# one of them is done last: so it is the one to be taken first.
def ways_of(speech, letters, saying):
    waiting = []
    for part in reversed(parts_of(saying)):
        inner = [waiting.pop() for held in held_in(part)]
        waiting.append(ways_of_part(speech, letters, part, inner))
    return waiting.pop()


def ways_of_part(speech, letters, part, inner):
    if part[0] == "either":
        return either_ways(inner[0], inner[1])
    if part[0] == "then":
        return then_ways(inner[0], inner[1])
    if part[0] == "again":
        return again_ways(inner[0])
    if part[0] == "not":
        return [[where_nothing(inner[0][0][0])]]
    if part[0] == "note":
        return note_ways(len(letters))
    return [[plain_relation(speech, letters, part)]]


def plain_relation(speech, letters, part):
    if part[0] == "none":
        return nothing(len(letters))
    if part[0] == "all":
        return the_same(len(letters))
    place = place_of(speech, part[1], part[2])
    if part[0] == "is":
        return is_relation(letters, place, part[2])
    return put_relation(letters, place, part[2])


def is_relation(letters, place, value):
    return [1 << at if letter[place] == value else 0 for at, letter in enumerate(letters)]


def put_relation(letters, place, value):
    put = [letter[:place] + (value,) + letter[place + 1:] for letter in letters]
    return [1 << letters.index(letter) for letter in put]


def note_ways(size):
    return [[nothing(size), the_same(size)], [the_same(size), nothing(size)]]


# Both begin in room 0; the rooms of the second one stand behind the first's.
def either_ways(one, other):
    start = [either_of(one[0][0], other[0][0])] + one[0][1:] + other[0][1:]
    fill = filling(other)
    return [start] + [row + fill for row in one[1:]] + behind(one, other)


# Wherever the first one may end, the second one begins.
def then_ways(first, second):
    rows = []
    for row in first:
        begun = [one_then_other(row[0], relation) for relation in second[0]]
        rows.append(begun[:1] + row[1:] + begun[1:])
    return rows + behind(first, second)


# The rows of the second one's own rooms: from there no room of the first one
# can be come to.
def behind(first, second):
    fill = filling(first)
    return [row[:1] + fill + row[1:] for row in second[1:]]


def filling(ways):
    return [nothing(len(ways[0][0]))] * (len(ways) - 1)


# Wherever it may end it may begin anew, as often as it can without a note.
def again_ways(ways):
    anew = again_and_again(ways[0][0])
    rows = [again_row(row, anew, ways[0]) for row in ways]
    rows[0][0] = anew
    return rows


def again_row(row, anew, start):
    ended = one_then_other(row[0], anew)
    later = [either_of(old, one_then_other(ended, begun)) for old, begun in zip(row[1:], start[1:])]
    return [ended] + later


# A layer is a dict: of each spot that is come to with so many notes and not
# with fewer, the first letters in order that lead there. A spot may be any
# tuple that tells what can come behind it. `found_at` tells what is looked for
# at a spot, with the letters that lead there; `following` tells tuples (letter,
# spot) of what is next. Told is (found, None), the first in order of the
# shortest found; or (None, spots), all that there are, in order.
def first_found(layer, found_at, following):
    seen = {}
    while layer:
        found = []
        for spot, begun in layer.items():
            found.extend(found_at(spot, begun))
        if found:
            return (min(found), None)
        seen.update(layer)
        layer = next_layer(layer, following, seen)
    return (None, sorted(seen.keys()))


def next_layer(layer, following, seen):
    later = {}
    for spot, begun in layer.items():
        for letter, after in following(spot):
            longer = begun + (letter,)
            if after not in seen:
                later[after] = min(longer, later.get(after, longer))
    return later
