"""Machines: made of rows, and what strips they take."""

from striproam.errors import NoMachine, NoStrip

SIGNS = "abc"
STOPS = ("by", "out")
STEPS = (1, -1)
MOST_ROOMS = 60


def is_whole(value):
    # Python counts True and False as numbers; the document does not.
    return isinstance(value, int) and not isinstance(value, bool)


def is_room(value, rooms):
    return is_whole(value) and 0 <= value < rooms


def is_turn(value, rooms):
    return value in STOPS or is_room(value, rooms)


def is_cell(cell, rooms):
    return is_room(cell[0], rooms) and is_whole(cell[1]) and cell[1] in STEPS


def has_cells(cells, signs):
    return 1 <= len(cells) <= len(SIGNS) and len(cells) == signs


def fault_of(row, rooms, signs):
    # Of several faults the first asked for is told, so the order matters.
    if not has_cells(row[1], signs):
        return "cells"
    if not is_turn(row[0], rooms):
        return "left"
    if not all([is_cell(cell, rooms) for cell in row[1]]):
        return "cell"
    if not is_turn(row[2], rooms):
        return "right"
    return None


def frozen(row):
    # Lists may be changed by whoever handed them in; tuples can't be.
    return (row[0], tuple([(cell[0], cell[1]) for cell in row[1]]), row[2])


def machine_of(rows):
    rooms = len(rows)
    if not 1 <= rooms <= MOST_ROOMS:
        raise NoMachine("rooms", rooms)
    signs = len(rows[0][1])
    for room, row in enumerate(rows):
        part = fault_of(row, rooms, signs)
        if part is not None:
            raise NoMachine(part, room)
    return tuple([frozen(row) for row in rows])


def signs_of(machine):
    return len(machine[0][1])


def cells_of(machine, number):
    return [row[1][number] for row in machine]


def checked_by(signs, strip):
    known = SIGNS[:signs]
    for at, sign in enumerate(strip):
        if sign not in known:
            raise NoStrip(at)
    return strip


def checked(machine, strip):
    return checked_by(signs_of(machine), strip)
