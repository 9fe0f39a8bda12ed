"""Tables: what a machine does within a strip, no marks being there."""

from striproam.machines import SIGNS, STOPS, cells_of, checked, signs_of


def still(rooms):
    fore = tuple([(1, room) for room in range(rooms)])
    aft = tuple([(-1, room) for room in range(rooms)])
    return (fore, aft)


def sign_table(machine, sign):
    checked(machine, sign)
    # On one sign it is all the same from which end the machine came in.
    things = tuple([(cell[1], cell[0]) for cell in cells_of(machine, SIGNS.index(sign))])
    return (things, things)


def gone_out(one, other, thing, inward):
    # The step inward leads over the border between both parts; it is the
    # other step each time, for the machine is then in the other part.
    been = {}
    while thing is not None and thing[0] == inward:
        if thing in been:
            return None
        been[thing] = True
        thing = other[0][thing[1]] if inward == 1 else one[1][thing[1]]
        inward = -inward
    return thing


def behind(one, other):
    fore = tuple([gone_out(one, other, thing, 1) for thing in one[0]])
    aft = tuple([gone_out(one, other, thing, -1) for thing in other[1]])
    return (fore, aft)


def table_of(machine, strip):
    checked(machine, strip)
    tables = [sign_table(machine, sign) for sign in SIGNS[:signs_of(machine)]]
    table = still(len(machine))
    for sign in strip:
        table = behind(table, tables[SIGNS.index(sign)])
    return table


def said(machine, table):
    # Coming out over an end is coming to the mark there, so a stand at a mark
    # is told like a thing: -1 for the left one, 1 for the right one.
    thing = (-1, 0)
    been = {}
    while thing is not None and thing not in been:
        been[thing] = True
        row = machine[thing[1]]
        turn = row[0] if thing[0] == -1 else row[2]
        if turn in STOPS:
            return turn
        thing = table[0][turn] if thing[0] == -1 else table[1][turn]
    return "ever"


def turned_thing(thing):
    return None if thing is None else (-thing[0], thing[1])


def turned(table):
    fore = tuple([turned_thing(thing) for thing in table[1]])
    aft = tuple([turned_thing(thing) for thing in table[0]])
    return (fore, aft)


def mirrored_row(row):
    return (row[2], tuple([(cell[0], -cell[1]) for cell in row[1]]), row[0])


def mirrored(machine):
    return tuple([mirrored_row(row) for row in machine])
