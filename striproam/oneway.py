"""One way alone: beginnings of strips, and machines that read a strip from left to right."""

from striproam.errors import TooMany
from striproam.machines import SIGNS, cells_of, checked, checked_by, signs_of
from striproam.ways import reached

MOST_BEGINNINGS = 200


def is_word(part):
    return isinstance(part, str)


def without_signs(machine):
    lefts = tuple([row[0] for row in machine])
    return (lefts[0], lefts)


def gone_on(backs, cells, room):
    # A word in the place of the room: the machine did not come to this sign.
    been = {}
    while not is_word(room):
        if room in been:
            return "ever"
        been[room] = True
        cell = cells[room]
        if cell[1] == 1:
            return cell[0]
        room = backs[cell[0]]
    return room


def longer(begun, cells):
    first = gone_on(begun[1], cells, begun[0])
    backs = tuple([gone_on(begun[1], cells, room) for room in range(len(cells))])
    return (first, backs)


def beginning(machine, strip):
    checked(machine, strip)
    columns = [cells_of(machine, number) for number in range(signs_of(machine))]
    begun = without_signs(machine)
    for sign in strip:
        begun = longer(begun, columns[SIGNS.index(sign)])
    return begun


def word_behind(machine, begun):
    room = begun[0]
    been = {}
    while not is_word(room):
        if room in been:
            return "ever"
        been[room] = True
        turn = machine[room][2]
        room = turn if is_word(turn) else begun[1][turn]
    return room


def one_way(machine):
    columns = [cells_of(machine, number) for number in range(signs_of(machine))]

    def after(begun):
        return [longer(begun, cells) for cells in columns]

    search = reached(without_signs(machine), after, lambda found, at: len(found) > MOST_BEGINNINGS)
    found = search[0]
    if len(found) > MOST_BEGINNINGS:
        raise TooMany(f"more than {MOST_BEGINNINGS} beginnings")
    return (tuple(search[1]), tuple([word_behind(machine, begun) for begun in found]))


def signs_by(reader):
    return len(reader[0][0])


def room_from(reader, room, strip):
    for sign in strip:
        room = reader[0][room][SIGNS.index(sign)]
    return room


def room_by(reader, strip):
    return room_from(reader, 0, checked_by(signs_by(reader), strip))


def word_by(reader, strip):
    return reader[1][room_by(reader, strip)]
