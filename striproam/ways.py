"""Things reached from one of them by signs, each by its first strip."""

from striproam.machines import SIGNS


def reached(begin, after, done):
    # A first strip without its last sign is a first strip too, so things are
    # found in the order of their first strips; a row tells, for each sign, the
    # number of the thing behind it. Where done ends it, found[len(rows)] is
    # the first thing that has no row.
    found = [begin]
    numbers = {begin: 0}
    rows = []
    while len(rows) < len(found) and not done(found, len(rows)):
        row = []
        for thing in after(found[len(rows)]):
            if thing not in numbers:
                numbers[thing] = len(found)
                found.append(thing)
            row.append(numbers[thing])
        rows.append(tuple(row))
    return (found, rows)


def never(found, at):
    return False


def strip_to(rows, number):
    # Kept are steps and not strips: those of many things, one behind the
    # other, would be long beyond measure.
    came = {}
    for at, row in enumerate(rows):
        for sign, there in zip(SIGNS, row):
            came.setdefault(there, (at, sign))
    signs = []
    while number != 0:
        signs.append(came[number][1])
        number = came[number][0]
    signs.reverse()
    return "".join(signs)


def first_to(begin, after, wanted):
    search = reached(begin, after, lambda found, at: wanted(found[at]))
    found = search[0]
    rows = search[1]
    return (found, None if len(rows) == len(found) else strip_to(rows, len(rows)))
