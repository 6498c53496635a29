"""Rows: deeds done one behind the other, and the list of all deeds of a small width."""

from bitlead.deeds import deed_leading, done, is_deed
from bitlead.leadings import staying, then
from bitlead.words import full

# In the order in which all_deeds tells them.
DEED_NAMES = ("and", "or", "left", "right", "turn", "swap", "gather", "strew", "copy")


def is_row(width, thing):
    if not isinstance(thing, (list, tuple)):
        return False
    return all([is_deed(width, part) for part in thing])


def row_done(width, row, word):
    for deed in row:
        word = done(width, deed, word)
    return word


def row_leading(width, row):
    leading = staying(width)
    for deed in row:
        leading = then(leading, deed_leading(width, deed))
    return leading


def all_deeds(width):
    deeds = []
    for name in DEED_NAMES:
        deeds.extend([deed for deed in maybe_deeds(width, name) if is_deed(width, deed)])
    return deeds


def maybe_deeds(width, name):
    tried = []
    # No number of a shift is left out: a width is never above its greatest mask.
    for part in range(full(width) + 1):
        tried.append((name, part))
        tried.extend([(name, part, by) for by in range(1 - width, width)])
    return tried
