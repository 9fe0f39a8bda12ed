"""Papers: whether what is told of a walk is right."""

from striproam.walks import path, walk


def stand_at(stands, ending, number):
    if number < len(stands):
        return stands[number]
    # From first on the walk goes round, so a stand far on is one told already.
    return stands[ending.first + (number - ending.first) % (ending.again - ending.first)]


def goes_round(machine, strip, ending, paper):
    first = paper[3]
    again = paper[4]
    if not 0 <= first < again <= len(machine) * (len(strip) + 2):
        return False
    stands = path(machine, strip)
    stand = (paper[1], paper[2])
    return stand_at(stands, ending, first) == stand and stand_at(stands, ending, again) == stand


def holds(machine, strip, paper):
    ending = walk(machine, strip)
    if ending.stops():
        return paper == ending.paper()
    return paper[0] == "ever" and goes_round(machine, strip, ending, paper)
