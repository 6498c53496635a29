"""Leadings and rows of deeds taken over to wider words, and leadings laid side by side."""

from bitlead.words import full, low


def lifted(leading, at, wide):
    return tuple(range(at)) + higher(leading, at) + tuple(range(at + len(leading), wide))


def beside(leadings):
    told = ()
    for leading in leadings:
        told = told + higher(leading, len(told))
    return told


def lanes(leading, many):
    return beside([leading] * many)


def higher(leading, by):
    return tuple([entry + by if entry >= 0 else entry for entry in leading])


def wider_row(width, row, wide):
    # How wide makes no odds: it is never less than twice the width, and no deed told here goes up beyond that.
    told = []
    for deed in row:
        told.extend(wider_deeds(width, deed))
    return told


def wider_deeds(width, deed):
    # The places from width on are 0 ahead of each deed and must be so again behind it; only left and turn break that.
    if deed[0] == "left":
        return [deed, ("and", full(width))]
    if deed[0] == "turn":
        # What went beyond the width is exchanged for the 0 bits that came in at the lowest places.
        return [("left", deed[1]), ("swap", low(deed[1]), width)]
    return [deed]
