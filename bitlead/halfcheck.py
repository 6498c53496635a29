"""Whether a thing is a paper by halves; it shares no step with the finding of one."""

from bitlead.deeds import deed_leading
from bitlead.kinds import is_within
from bitlead.leadings import is_even, is_leading, then
from bitlead.words import low


def shows_halves(leading, paper):
    if not isinstance(paper, tuple):
        return False
    half = len(leading) // 2
    if half == 0:
        return len(paper) == 0
    if not has_form(half, paper) or joined(half, paper) != leading:
        return False
    return shows_part(paper[2]) and shows_part(paper[3])


def has_form(half, paper):
    if len(paper) != 4:
        return False
    if not is_within(paper[0], 0, low(half)) or not is_within(paper[1], 0, low(half)):
        return False
    return is_part(half, paper[2]) and is_part(half, paper[3])


def is_part(half, thing):
    if not isinstance(thing, tuple) or len(thing) != 2:
        return False
    return is_leading(thing[0]) and len(thing[0]) == half and is_even(thing[0])


def shows_part(part):
    return shows_halves(part[0], part[1])


def joined(half, paper):
    # The leading that the two exchanges and the two leadings between them come to.
    between = paper[2][0] + tuple([entry + half for entry in paper[3][0]])
    return then(then(exchange(half, paper[0]), between), exchange(half, paper[1]))


def exchange(half, mask):
    return deed_leading(2 * half, ("swap", mask, half))
