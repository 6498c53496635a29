"""Whether a row is shown by a paper to be of the fewest deeds; it shares no step with the finding of one."""

from bitlead.deeds import deed_leading
from bitlead.leadings import is_leading, staying, then
from bitlead.rows import is_row, row_leading


def shows_fewest(leading, menu, row, paper):
    width = len(leading)
    if not is_row_of(width, menu, row) or row_leading(width, row) != leading:
        return False
    if not has_form(width, paper) or len(paper) != len(row):
        return False
    return none_shorter(leading, menu, paper)


def is_row_of(width, menu, row):
    # Python takes True for 1 where it compares, so the deeds of the row are looked at by themselves first.
    return is_row(width, row) and all([deed in menu for deed in row])


def has_form(width, paper):
    if not isinstance(paper, (list, tuple)):
        return False
    return all([holds_leadings(width, part) for part in paper])


def holds_leadings(width, part):
    if not isinstance(part, (list, tuple)):
        return False
    return all([is_leading(thing) and len(thing) == width for thing in part])


def none_shorter(leading, menu, paper):
    steps = [deed_leading(len(leading), deed) for deed in menu]
    needed = {staying(len(leading)): True}
    for part in paper:
        there = keyed(part)
        if leading in there or not all([one in there for one in needed]):
            return False
        needed = made_of(there, steps)
    return True


def keyed(leadings):
    there = {}
    for leading in leadings:
        there[leading] = True
    return there


def made_of(leadings, steps):
    made = {}
    for leading in leadings:
        for step in steps:
            made[then(leading, step)] = True
    return made
