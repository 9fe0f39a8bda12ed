"""What the document says, said a second time and as plainly as can be, to hold the program against."""

import itertools
import random

from striproam.machines import machine_of


def strips(signs, longest):
    """All strips up to a length, shorter first, then by the alphabet."""
    for length in range(longest + 1):
        for letters in itertools.product("abc"[:signs], repeat=length):
            yield "".join(letters)


def drawn_end(source, rooms, stops):
    return source.choice(("by", "out")) if source.randrange(100) < stops else source.randrange(rooms)


def drawn_machine(source, rooms, signs, stops):
    return machine_of([
        [
            drawn_end(source, rooms, stops),
            [[source.randrange(rooms), source.choice((1, -1))] for sign in range(signs)],
            drawn_end(source, rooms, stops),
        ]
        for room in range(rooms)
    ])


def drawn_machines(many, most_rooms, seed=1, stops=40):
    source = random.Random(seed)
    return [
        drawn_machine(source, source.randint(1, most_rooms), source.randint(1, 3), stops)
        for number in range(many)
    ]


def drawn_strip(source, machine, length):
    return "".join(source.choice("abc"[:len(machine[0][1])]) for place in range(length))


def drawn_table(source, rooms):
    things = [None] + [(step, room) for step in (1, -1) for room in range(rooms)]
    return tuple(tuple(source.choice(things) for room in range(rooms)) for end in range(2))


def gone(machine, strip, steps):
    """The stands of so many steps, fewer where it stops, and the word by which it does or None."""
    places = ["<", *strip, ">"]
    stands = [(0, 0)]
    while True:
        place, room = stands[-1]
        left, cells, right = machine[room]
        sign = places[place]
        into, step = {"<": (left, 1), ">": (right, -1)}.get(sign) or cells["abc".index(sign)]
        if isinstance(into, str):
            return stands, into
        if len(stands) > steps:
            return stands, None
        stands.append((place + step, into))


def most_stands(machine, strip):
    return len(machine) * (len(strip) + 2)


def plain_path(machine, strip):
    stands, word = gone(machine, strip, most_stands(machine, strip))
    if word is None:
        for number, stand in enumerate(stands):
            if stand in stands[:number]:
                return stands[:number + 1]
    return stands


def plain_word(machine, strip):
    return gone(machine, strip, most_stands(machine, strip))[1] or "ever"


def plain_thing(machine, strip, place, room):
    """Where it goes out of the strip, the first sign being place 0; None where it does not."""
    for step in range(len(machine) * len(strip) + 1):
        if place == len(strip):
            return (1, room)
        if place == -1:
            return (-1, room)
        into, way = machine[room][1]["abc".index(strip[place])]
        place, room = place + way, into
    return None


def plain_table(machine, strip):
    rooms = range(len(machine))
    return (
        tuple(plain_thing(machine, strip, 0, room) for room in rooms),
        tuple(plain_thing(machine, strip, len(strip) - 1, room) for room in rooms),
    )


class Refusal(Exception):
    """A paper that does not hold at some place."""


def taken(crossings, at):
    if at >= len(crossings):
        raise Refusal
    return crossings[at]


def look_at_mark(machine, side, crossings, outward):
    """Whether it stops here by a word; outward is where crossings towards the mark stand, from 0 or 1."""
    rooms = [0] if side == 0 else []
    rooms += crossings[outward::2]
    inward = list(crossings[1 - outward::2])
    for number, room in enumerate(rooms):
        end = machine[room][side] if room in range(len(machine)) else None
        if isinstance(end, str):
            if number != len(rooms) - 1 or number != len(inward):
                raise Refusal
            return end
        if end is None or taken(inward, number) != end:
            raise Refusal
    if len(inward) != len(rooms):
        raise Refusal
    return None


def look_at_sign(machine, number, before, after):
    left, right = 0, 0
    side = "left"
    while left < len(before) or right < len(after):
        if side == "left":
            room, left = taken(before, left), left + 1
        else:
            room, right = taken(after, right), right + 1
        if room not in range(len(machine)):
            raise Refusal
        into, step = machine[room][1][number]
        if step == 1:
            crossed, right, side = taken(after, right), right + 1, "right"
        else:
            crossed, left, side = taken(before, left), left + 1, "left"
        if crossed != into:
            raise Refusal


def looked_through(machine, strip, paper):
    """Of a paper with by or out: seen place by place, without a walk."""
    word, borders = paper
    if len(borders) != len(strip) + 1:
        return False
    try:
        words = [look_at_mark(machine, 0, borders[0], 1), look_at_mark(machine, 2, borders[-1], 0)]
        for place, sign in enumerate(strip):
            look_at_sign(machine, "abc".index(sign), borders[place], borders[place + 1])
    except Refusal:
        return False
    return sorted(words, key=str) == sorted([word, None], key=str)


def plain_coming_out(machine, strip, place, room):
    """The room in which it goes out over the right end, the left mark being there; else by, out or ever."""
    for step in range(most_stands(machine, strip)):
        if place == len(strip) + 1:
            return room
        if place == 0:
            if machine[room][0] in ("by", "out"):
                return machine[room][0]
            into, way = machine[room][0], 1
        else:
            into, way = machine[room][1]["abc".index(strip[place - 1])]
        place, room = place + way, into
    return "ever"


def plain_beginning(machine, strip):
    return (
        plain_coming_out(machine, strip, 0, 0),
        tuple(plain_coming_out(machine, strip, len(strip), room) for room in range(len(machine))),
    )


def plain_one_way(machine, most):
    """Its rows and words, each room by a strip that has it and is walked anew; None where there are more than most."""
    found, begun, rows = [""], {plain_beginning(machine, ""): 0}, []
    for strip in found:
        row = []
        for sign in "abc"[:len(machine[0][1])]:
            number = begun.setdefault(plain_beginning(machine, strip + sign), len(found))
            if number == len(found):
                found.append(strip + sign)
            row.append(number)
        if len(found) > most:
            return None
        rows.append(tuple(row))
    return (tuple(rows), tuple(plain_word(machine, strip) for strip in found))


def drawn_reader(source, rooms, signs, words=("by", "out", "ever")):
    """A one-way machine."""
    return (
        tuple(tuple(source.randrange(rooms) for sign in range(signs)) for room in range(rooms)),
        tuple(source.choice(words) for room in range(rooms)),
    )


def plain_room(reader, strip, room=0):
    for sign in strip:
        room = reader[0][room]["abc".index(sign)]
    return room
