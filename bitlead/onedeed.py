"""One deed for a leading, where there is one."""

from bitlead.deeds import deed_leading, is_deed
from bitlead.leadings import ONE, kept_by
from bitlead.words import mask_of


def one_deed(leading):
    width = len(leading)
    for deed in likely_deeds(leading):
        if is_deed(width, deed) and deed_leading(width, deed) == leading:
            return deed
    return None


def likely_deeds(leading):
    # For each word only one deed can lead so, if any does. Each left is a strew too and each right a gather,
    # so those two words need not be tried.
    turn = ("turn", -leading[0] % len(leading))
    return mask_deeds(leading) + [turn] + pair_deeds(leading)


def mask_deeds(leading):
    stay = [place for place, entry in enumerate(leading) if entry == place]
    ones = [place for place, entry in enumerate(leading) if entry == ONE]
    filled = [place for place, entry in enumerate(leading) if entry >= 0]
    return [
        ("and", mask_of(stay)),
        ("or", mask_of(ones)),
        ("gather", kept_by(leading)),
        ("strew", mask_of(filled)),
    ]


def pair_deeds(leading):
    changed = [place for place, entry in enumerate(leading) if entry >= 0 and entry != place]
    if len(changed) == 0:
        return []
    # All that a swap or a copy does shows in the changed places, and any of them tells how far it goes;
    # the least one is the lower of its two where it is a swap's.
    by = leading[changed[0]] - changed[0]
    swap_mask = mask_of([place for place in changed if leading[place] > place])
    copy_mask = mask_of([leading[place] for place in changed])
    return [("swap", swap_mask, by), ("copy", copy_mask, -by)]
