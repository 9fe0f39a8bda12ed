"""Pairs of rooms to which the same strip leads two one-way machines."""

from striproam.ways import first_to


def after_pair(one, other, pair):
    return list(zip(one[0][pair[0]], other[0][pair[1]]))


def same_word(one, other, pair):
    return one[1][pair[0]] == other[1][pair[1]]


def parted(one, other, begin):
    def after(pair):
        return after_pair(one, other, pair)

    def unlike(pair):
        return not same_word(one, other, pair)

    return first_to(begin, after, unlike)
