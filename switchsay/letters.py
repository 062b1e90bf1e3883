"""Speeches and their letters."""

from switchsay.errors import NoField, NoValue


def letters_of(speech):
    letters = [()]
    for pair in speech:
        letters = each_longer(letters, pair[1])
    return letters


# The letters stay in the order of tuples, because the new field is the last
# one and so counts only among letters that are alike up to it.
def each_longer(letters, count):
    longer = []
    for letter in letters:
        longer.extend([letter + (value,) for value in range(count)])
    return longer


def put_in(speech, letter, field, value):
    place = place_of(speech, field, value)
    return letter[:place] + (value,) + letter[place + 1:]


# The value is looked at only once the field is found: NoField comes first.
def place_of(speech, field, value):
    for place, pair in enumerate(speech):
        if pair[0] == field:
            must_value(pair[1], value)
            return place
    raise NoField(field)


def must_value(count, value):
    if value < 0 or value >= count:
        raise NoValue(value)
