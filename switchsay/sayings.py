"""Sayings: their parts, and how they are looked through."""

from switchsay.errors import NoPlain, NoTest
from switchsay.letters import place_of

HOLDING_SORTS = ("not", "either", "then", "again")
FIELD_SORTS = ("is", "put")
TEST_SORTS = ("none", "all", "is", "not", "either", "then")


# Every refusal is looked for in this order: from left to right, a saying
# ahead of those in it. A list of those still to come stands in the place of
# recursion, because sayings that are told of nets may be nested very deeply.
def parts_of(saying):
    parts = []
    waiting = [saying]
    while waiting:
        part = waiting.pop()
        parts.append(part)
        waiting.extend(held_in(part)[::-1])
    return parts


# Only the sort tells what the rest is: a field may be called "note" or "put".
def held_in(saying):
    if saying[0] in HOLDING_SORTS:
        return saying[1:]
    return ()


def must_saying(speech, saying):
    for part in parts_of(saying):
        must_part(speech, part)


def must_part(speech, part):
    if part[0] in FIELD_SORTS:
        place_of(speech, part[1], part[2])
    if part[0] == "not":
        must_test(part[1])


def is_test(saying):
    return all([part[0] in TEST_SORTS for part in parts_of(saying)])


def notes_in(saying):
    return len([part for part in parts_of(saying) if part[0] == "note"])


def must_test(saying):
    if not is_test(saying):
        raise NoTest(saying)


# All are looked through ahead of asking of any whether it is a test.
def must_tests(speech, tests):
    for test in tests:
        must_saying(speech, test)
    for test in tests:
        must_test(test)


def must_plain(saying):
    if notes_in(saying):
        raise NoPlain(saying)
