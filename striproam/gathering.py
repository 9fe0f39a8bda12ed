"""All tables that a machine's strips have, and their products."""

from striproam.errors import TooMany
from striproam.machines import SIGNS, signs_of
from striproam.tables import behind, sign_table, still

MOST_TABLES = 300
MOST_MULTIPLIED = 40


def gathered(machine, most):
    ends = [(sign, sign_table(machine, sign)) for sign in SIGNS[:signs_of(machine)]]
    found = [("", still(len(machine)))]
    known = {found[0][1]: True}
    at = 0
    # A first strip without its last sign is a first strip too, so putting
    # signs behind those found, in order, finds all, each by its first strip.
    while at < len(found):
        for sign, end in ends:
            table = behind(found[at][1], end)
            if table not in known:
                known[table] = True
                found.append((found[at][0] + sign, table))
        if len(found) > most:
            raise TooMany(f"more than {most} tables")
        at += 1
    return found


def all_tables(machine):
    return gathered(machine, MOST_TABLES)


def products_of(one, tables, numbers):
    return [numbers[behind(one, other)] for other in tables]


def products(machine):
    tables = [table for strip, table in gathered(machine, MOST_MULTIPLIED)]
    numbers = dict([(table, number) for number, table in enumerate(tables)])
    return [products_of(one, tables, numbers) for one in tables]
