"""What kind a thing is, for the askers that may be handed anything."""


def is_within(thing, least, most):
    # Python counts True and False among the whole numbers, the document doesn't.
    if isinstance(thing, bool) or not isinstance(thing, int):
        return False
    return least <= thing <= most
