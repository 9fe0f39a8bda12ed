"""Whether two machines say the same of each strip, and what shows it."""

from striproam.errors import NotLike
from striproam.machines import signs_of
from striproam.oneway import one_way, signs_by
from striproam.pairs import after_pair, parted, same_word


def held(one, other):
    if signs_by(one) != signs_by(other):
        raise NotLike("not as many signs")
    search = parted(one, other, (0, 0))
    if search[1] is None:
        return ("alike", search[0])
    return ("unlike", search[1])


def compared(one, other):
    if signs_of(one) != signs_of(other):
        raise NotLike("not as many signs")
    return held(one_way(one), one_way(other))


def are_rooms(one, other, pair):
    return 0 <= pair[0] < len(one[0]) and 0 <= pair[1] < len(other[0])


def shows_alike(one, other, pairs):
    if signs_by(one) != signs_by(other):
        return False
    known = dict([(pair, True) for pair in pairs])
    if (0, 0) not in known:
        return False
    for pair in known:
        # Looked at first: a number below 0 would be taken as one from the end.
        if not are_rooms(one, other, pair) or not same_word(one, other, pair):
            return False
        if not all([there in known for there in after_pair(one, other, pair)]):
            return False
    return True
