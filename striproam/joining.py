"""Machines made of others: the other one, two joined, one turned about."""

from striproam.errors import NotLike, TooMany
from striproam.machines import MOST_ROOMS, STOPS, signs_of
from striproam.tables import mirrored

OTHER_WORD = {"by": "out", "out": "by"}


def swapped_row(row):
    return (OTHER_WORD.get(row[0], row[0]), row[1], OTHER_WORD.get(row[2], row[2]))


def swapped(machine):
    return tuple([swapped_row(row) for row in machine])


def moved_turn(turn, rooms):
    return turn if turn in STOPS else turn + rooms


def moved_row(row, rooms):
    cells = tuple([(cell[0] + rooms, cell[1]) for cell in row[1]])
    return (moved_turn(row[0], rooms), cells, moved_turn(row[2], rooms))


def moved(machine, rooms):
    return [moved_row(row, rooms) for row in machine]


def bounded(rows):
    if len(rows) > MOST_ROOMS:
        raise TooMany(f"more than {MOST_ROOMS} rooms")
    return tuple(rows)


def handing_on(row, word, begin, home):
    left = begin if row[0] == word else row[0]
    right = home if row[2] == word else row[2]
    return (left, row[1], right)


def joined(one, two, word):
    # Where the first would stop by the word, the second begins: at the left
    # mark on the spot, from the right mark by the one room more, which goes
    # back to the left mark and so never comes to the right one.
    signs = signs_of(one)
    if signs != signs_of(two):
        raise NotLike("not as many signs")
    second = moved(two, len(one))
    begin = second[0][0]
    home = len(one) + len(two)
    first = [handing_on(row, word, begin, home) for row in one]
    homeward = (begin, ((home, -1),) * signs, "out")
    return bounded(first + second + [homeward])


def either(one, two):
    return joined(one, two, "out")


def both(one, two):
    return joined(one, two, "by")


def turned_about(machine):
    # The mirrored machine is to begin at the right mark: the one room more,
    # room 0, goes there and does what the mirrored room 0 does.
    rows = moved(mirrored(machine), 1)
    onward = (0, ((0, 1),) * signs_of(machine), rows[0][2])
    return bounded([onward] + rows)
