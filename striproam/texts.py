"""Machines written as texts, and read from them."""

from striproam.errors import NoText
from striproam.machines import SIGNS, STOPS, machine_of

FIGURES = "0123456789"
MOST_FIGURES = 2
ARROWS = {1: ">", -1: "<"}
ARROW_STEPS = {">": 1, "<": -1}


def cell_text(cell):
    return str(cell[0]) + ARROWS[cell[1]]


def row_text(row):
    cells = [cell_text(cell) for cell in row[1]]
    return ",".join([str(row[0])] + cells + [str(row[2])])


def machine_text(machine):
    return " ".join([row_text(row) for row in machine])


def is_number(part, most):
    if part == "0":
        return True
    if not 1 <= len(part) <= most or part[0] == "0":
        return False
    return all([sign in FIGURES for sign in part])


def is_turn_text(part):
    return part in STOPS or is_number(part, MOST_FIGURES)


def is_cell_text(part):
    # A slice, for a part without signs has no last sign to index.
    return part[-1:] in ARROW_STEPS and is_number(part[:-1], MOST_FIGURES)


def is_row_text(parts):
    cells = parts[1:-1]
    if not 1 <= len(cells) <= len(SIGNS):
        return False
    if not is_turn_text(parts[0]) or not is_turn_text(parts[-1]):
        return False
    return all([is_cell_text(cell) for cell in cells])


def read_turn(part):
    return part if part in STOPS else int(part)


def read_cell(part):
    return (int(part[:-1]), ARROW_STEPS[part[-1]])


def read_row(parts):
    cells = tuple([read_cell(part) for part in parts[1:-1]])
    return (read_turn(parts[0]), cells, read_turn(parts[-1]))


def read_machine(text):
    rows = []
    for at, word in enumerate(text.split(" ")):
        parts = word.split(",")
        if not is_row_text(parts):
            raise NoText(at)
        rows.append(read_row(parts))
    # Made only now, so that a bad word anywhere is told ahead of a bad machine.
    return machine_of(rows)
