"""First strips of which a machine says a word, and machines that always stop."""

from striproam.errors import NoWord, TooMany
from striproam.least import lead, least
from striproam.machines import MOST_ROOMS
from striproam.oneway import one_way

WORDS = ("by", "out", "ever")


def first_strip(machine, word):
    if word not in WORDS:
        raise NoWord("neither by, out nor ever")
    reader = one_way(machine)
    if word not in reader[1]:
        return None
    # Rooms are numbered in the order of the first strips that lead to them.
    return lead(reader, reader[1].index(word))


def stopping_word(word):
    return "out" if word == "ever" else word


def stopping_row(reader, room):
    left = 0 if room == 0 else "out"
    return (left, tuple([(there, 1) for there in reader[0][room]]), reader[1][room])


def stopping(machine):
    reader = one_way(machine)
    words = tuple([stopping_word(word) for word in reader[1]])
    smallest = least((reader[0], words))
    rooms = len(smallest[0])
    if rooms > MOST_ROOMS:
        raise TooMany(f"more than {MOST_ROOMS} rooms")
    return tuple([stopping_row(smallest, room) for room in range(rooms)])
