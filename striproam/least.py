"""The least one-way machine that says the same, and the strips that lead to its rooms and part them."""

from striproam.oneway import one_way
from striproam.pairs import parted
from striproam.ways import first_to, never, reached


def firsts(keys):
    first = {}
    for room, key in enumerate(keys):
        first.setdefault(key, room)
    return [first[key] for key in keys]


def behind_signs(likes, row):
    return tuple([likes[there] for there in row])


def finer(rows, likes):
    return firsts([(like, behind_signs(likes, row)) for like, row in zip(likes, rows)])


def alike_rooms(reader):
    # For each room the first one that nothing parts from it: what no sign
    # parts is parted by one sign more each time, until one more parts nothing.
    likes = firsts(reader[1])
    again = finer(reader[0], likes)
    while again != likes:
        likes = again
        again = finer(reader[0], likes)
    return likes


def least(reader):
    likes = alike_rooms(reader)

    def after(room):
        return behind_signs(likes, reader[0][room])

    search = reached(likes[0], after, never)
    return (tuple(search[1]), tuple([reader[1][room] for room in search[0]]))


def least_of(machine):
    return least(one_way(machine))


def lead(reader, room):
    def after(here):
        return reader[0][here]

    return first_to(0, after, lambda here: here == room)[1]


def parting(reader, one, other):
    return parted(reader, reader, (one, other))[1]
