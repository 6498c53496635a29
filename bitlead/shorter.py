"""Rows made short: deeds that do nothing left out, and neighbours put together."""

from bitlead.deeds import deed_leading, is_deed
from bitlead.gathering import strewn
from bitlead.leadings import staying
from bitlead.words import bits_in, low


def together(width, one, other):
    if one[0] == other[0]:
        return alike_together(width, one, other)
    if one[1] != other[1]:
        return None
    if one[0] == "gather" and other[0] == "strew":
        return ("and", one[1])
    if one[0] == "strew" and other[0] == "gather":
        return ("and", low(bits_in(one[1])))
    return None


def alike_together(width, one, other):
    name = one[0]
    if name == "and":
        return (name, one[1] & other[1])
    if name == "or":
        return (name, one[1] | other[1])
    if name in ("left", "right"):
        return (name, min(one[1] + other[1], width))
    if name == "turn":
        return (name, (one[1] + other[1]) % width)
    if name == "swap":
        return swaps_together(width, one, other)
    if name == "gather":
        return (name, strewn(other[1], one[1]))
    if name == "strew":
        return (name, strewn(one[1], other[1]))
    return None


def swaps_together(width, one, other):
    by = one[2]
    if other[2] != by or not is_deed(width, ("swap", one[1] | other[1], by)):
        return None
    # What both exchange is exchanged twice, which is as it was.
    return ("swap", one[1] ^ other[1], by)


def does_nothing(width, deed):
    return deed_leading(width, deed) == staying(width)


def shortened(width, row):
    short = []
    for deed in row:
        put_behind(width, short, deed)
    return short


def put_behind(width, short, deed):
    # The row is short ahead of this, so only its last deed can go together with the new one; what comes of both
    # may go together with the one ahead of that, and so on.
    while not does_nothing(width, deed):
        both = together(width, short[-1], deed) if len(short) > 0 else None
        if both is None:
            short.append(deed)
            return
        short.pop()
        deed = both


def is_short(width, row):
    if any([does_nothing(width, deed) for deed in row]):
        return False
    return all([together(width, one, other) is None for one, other in zip(row, row[1:])])


def bound(width, rows):
    deeds = []
    for row in rows:
        deeds.extend(row)
    return shortened(width, deeds)
