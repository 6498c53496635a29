"""The fewest deeds of a menu that lead so, found by going through all rows at once, the shorter ones first."""

from bitlead.deeds import deed_leading
from bitlead.leadings import staying, then


def fewest(leading, menu):
    found = searched(len(leading), menu, leading)
    if leading not in found:
        return None
    row = []
    at = leading
    while deeds_to(found, at) > 0:
        row.append(found[at][2])
        at = found[at][1]
    return list(reversed(row))


def how_few(leading, menu):
    found = searched(len(leading), menu, leading)
    return deeds_to(found, leading) if leading in found else None


def reach(width, menu):
    # None is no leading, so the search ends only where nothing new comes.
    found = searched(width, menu, None)
    return sorted([(deeds_to(found, leading), leading) for leading in found])


def fewest_paper(leading, menu):
    found = searched(len(leading), menu, leading)
    if leading not in found:
        return None
    return [within(found, many) for many in range(deeds_to(found, leading))]


def within(found, many):
    # What a deed makes of these needs one deed more at most, so it is among the next ones.
    return [leading for leading in found if deeds_to(found, leading) <= many]


def deeds_to(found, leading):
    return found[leading][0]


def searched(width, menu, wanted):
    # For each leading found: how many deeds, the leading ahead of the last deed, and that deed.
    made_by = deeds_by_leading(width, menu)
    start = staying(width)
    found = {start: (0, None, None)}
    edge = [start]
    while len(edge) > 0 and wanted not in found:
        edge = next_edge(found, edge, made_by)
    return found


def deeds_by_leading(width, menu):
    # Of deeds that lead alike one is enough.
    made_by = {}
    for deed in menu:
        made_by[deed_leading(width, deed)] = deed
    return made_by


def next_edge(found, edge, made_by):
    fresh = []
    for ahead in edge:
        for step in made_by:
            leading = then(ahead, step)
            if leading not in found:
                found[leading] = (deeds_to(found, ahead) + 1, ahead, made_by[step])
                fresh.append(leading)
    return fresh
