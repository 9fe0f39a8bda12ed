"""What comes round on strips with a piece again and again."""

from striproam.machines import checked
from striproam.oneway import one_way, room_from


def rooms_passed(reader, room, piece):
    # Told with the number from which on they come round.
    numbers = {}
    while room not in numbers:
        numbers[room] = len(numbers)
        room = room_from(reader, room, piece)
    return (list(numbers), numbers[room])


def least_round(words):
    length = 1
    while words[length:] + words[:length] != words:
        length += 1
    return length


def comes_round(machine, ahead, again, behind=""):
    for strip in (ahead, again, behind):
        checked(machine, strip)
    reader = one_way(machine)
    passed = rooms_passed(reader, room_from(reader, 0, ahead), again)
    words = [reader[1][room_from(reader, room, behind)] for room in passed[0]]
    start = passed[1]
    length = least_round(words[start:])
    # Rooms may come round later than what is said behind them.
    while start > 0 and words[start - 1] == words[start - 1 + length]:
        start -= 1
    return (start, length, words[:start + length])
