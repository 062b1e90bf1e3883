"""Tables for switches: what a saying without notes does, row by row."""

from switchsay.letters import letters_of
from switchsay.machines import Machine
from switchsay.sayings import must_plain, must_saying


def by_table(table, letter):
    for row in table:
        if matches(row[0], letter):
            return sorted(set([with_put(letter, deed) for deed in row[1]]))
    return []


# A letter has all the values of a match just where putting them changes nothing.
def matches(values, letter):
    return with_put(letter, values) == letter


def with_put(letter, values):
    return tuple([own if value is None else value for own, value in zip(letter, values)])


def table_of(speech, saying):
    must_saying(speech, saying)
    must_plain(saying)
    machine = Machine(speech, saying)
    wanted = [(letter, machine.ends(0, letter)) for letter in letters_of(speech)]
    return made_small([row_for(letter, ends) for letter, ends in wanted], wanted)


# A deed puts only what is changed: so one row can be right for many letters.
def row_for(letter, ends):
    return (letter, tuple([deed_for(letter, end) for end in ends]))


def deed_for(letter, end):
    return tuple([None if value == own else value for value, own in zip(end, letter)])


# A row that must stay or a match that can't be wider may be no longer so once
# others are changed: only when all were tried in vain is the table done.
def made_small(table, wanted):
    before = []
    while table != before:
        before = table
        table = with_wider_matches(with_fewer_rows(table, wanted), wanted)
    return table


def with_fewer_rows(table, wanted):
    for place in range(len(table) - 1, -1, -1):
        fewer = table[:place] + table[place + 1:]
        if does_all(fewer, wanted):
            table = fewer
    return table


def with_wider_matches(table, wanted):
    for place in range(len(table)):
        for field in range(len(table[place][0])):
            wider = table[:place] + [wider_row(table[place], field)] + table[place + 1:]
            if does_all(wider, wanted):
                table = wider
    return table


def wider_row(row, field):
    return (row[0][:field] + (None,) + row[0][field + 1:], row[1])


def does_all(table, wanted):
    for letter, ends in wanted:
        if by_table(table, letter) != ends:
            return False
    return True
