"""Walks: a machine's way over a strip between its marks, and how it ends."""

from striproam.machines import SIGNS, STOPS, checked

BEGIN = (0, 0)


class Ending:
    def __init__(self, place, room):
        self.place = place
        self.room = room


class LetBy(Ending):
    def __init__(self, place, room, borders):
        Ending.__init__(self, place, room)
        self.borders = borders

    def says(self):
        return "by"

    def stops(self):
        return True

    def paper(self):
        return ("by", self.borders)


class ShutOut(Ending):
    def __init__(self, place, room, borders):
        Ending.__init__(self, place, room)
        self.borders = borders

    def says(self):
        return "out"

    def stops(self):
        return True

    def paper(self):
        return ("out", self.borders)


class ForEver(Ending):
    def __init__(self, place, room, first, again):
        Ending.__init__(self, place, room)
        self.first = first
        self.again = again

    def says(self):
        return "ever"

    def stops(self):
        return False

    def paper(self):
        return ("ever", self.place, self.room, self.first, self.again)


def cell_at(machine, strip, stand):
    # What left or right tells comes with its step inward, so that marks are
    # left as signs are; a word in the place of the room is where it stops.
    place = stand[0]
    row = machine[stand[1]]
    if place == 0:
        return (row[0], 1)
    if place == len(strip) + 1:
        return (row[2], -1)
    return row[1][SIGNS.index(strip[place - 1])]


def path(machine, strip):
    checked(machine, strip)
    stand = BEGIN
    stands = [stand]
    been = {}
    while stand not in been:
        been[stand] = True
        cell = cell_at(machine, strip, stand)
        if cell[0] in STOPS:
            return stands
        stand = (stand[0] + cell[1], cell[0])
        stands.append(stand)
    return stands


def borders_of(stands, strip):
    crossings = [[] for border in range(len(strip) + 1)]
    for here, there in zip(stands, stands[1:]):
        # A border bears the number of the place on its left.
        crossings[min(here[0], there[0])].append(there[1])
    return tuple([tuple(rooms) for rooms in crossings])


def walk(machine, strip):
    stands = path(machine, strip)
    last = stands[-1]
    word = cell_at(machine, strip, last)[0]
    if word == "by":
        return LetBy(last[0], last[1], borders_of(stands, strip))
    if word == "out":
        return ShutOut(last[0], last[1], borders_of(stands, strip))
    return ForEver(last[0], last[1], stands.index(last), len(stands) - 1)


def sayer(machine):
    def word_of(strip):
        return walk(machine, strip).says()

    return word_of
