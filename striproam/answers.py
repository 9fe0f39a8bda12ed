"""What a desk's lines ask for: machines made, and answers given, of those that are kept."""

from striproam.again import comes_round
from striproam.comparing import compared
from striproam.errors import NoBorder
from striproam.gathering import all_tables
from striproam.joining import both, either, swapped, turned_about
from striproam.least import least_of
from striproam.stopping import first_strip, stopping
from striproam.texts import machine_text, read_machine
from striproam.walks import walk

BARE = "-"


def strip_read(word):
    return "" if word == BARE else word


def strip_shown(strip):
    return BARE if strip == "" else strip


def make_read(kept, words):
    return read_machine(words[2])


def make_other(kept, words):
    return swapped(kept[words[2]])


def make_turned(kept, words):
    return turned_about(kept[words[2]])


def make_stopping(kept, words):
    return stopping(kept[words[2]])


def make_either(kept, words):
    return either(kept[words[2]], kept[words[3]])


def make_both(kept, words):
    return both(kept[words[2]], kept[words[3]])


def tell_text(kept, words):
    return machine_text(kept[words[1]])


def tell_names(kept, words):
    return " ".join(sorted(kept))


def tell_walk(kept, words):
    ending = walk(kept[words[1]], strip_read(words[2]))
    return " ".join([ending.says(), str(ending.place), str(ending.room)])


def tell_border(kept, words):
    strip = strip_read(words[2])
    ending = walk(kept[words[1]], strip)
    number = int(words[3])
    if number > len(strip):
        raise NoBorder("beyond the strip")
    if not ending.stops():
        return ending.says()
    return " ".join([str(room) for room in ending.borders[number]])


def tell_rooms(kept, words):
    return str(len(least_of(kept[words[1]])[0]))


def tell_tables(kept, words):
    return str(len(all_tables(kept[words[1]])))


def tell_first(kept, words):
    strip = first_strip(kept[words[1]], words[2])
    return "none" if strip is None else strip_shown(strip)


def tell_compared(kept, words):
    told = compared(kept[words[1]], kept[words[2]])
    return "alike" if told[0] == "alike" else "unlike " + strip_shown(told[1])


def tell_again(kept, words):
    strips = [strip_read(word) for word in words[2:]]
    told = comes_round(kept[words[1]], strips[0], strips[1], strips[2])
    return " ".join([str(told[0]), str(told[1])] + told[2])


MAKERS = {
    "keep": make_read,
    "no": make_other,
    "about": make_turned,
    "stop": make_stopping,
    "either": make_either,
    "both": make_both,
}
TELLERS = {
    "show": tell_text,
    "names": tell_names,
    "walk": tell_walk,
    "border": tell_border,
    "rooms": tell_rooms,
    "tables": tell_tables,
    "first": tell_first,
    "compare": tell_compared,
    "again": tell_again,
}


def makes(words):
    return words[0] in MAKERS


def made(kept, words):
    return MAKERS[words[0]](kept, words)


def answer(kept, words):
    return TELLERS[words[0]](kept, words)
