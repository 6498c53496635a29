"""Sheets as the document's words tell them: how things are written, and, by patterns alone, which row can't stand."""

import re

from tests.drawing import bits_of
from tests.model import MASK_NAMES, PAIR_NAMES, may_stand

NAME = "[a-z]{1,8}"
PLACE = "(?:0|[1-9][0-9]*)"
NUMBER = "(?:0|-?[1-9][0-9]*)"
SHIFT_NAMES = ("left", "right", "turn")


def word_said(width, word):
    return "".join(str(bit) for bit in bits_of(word, width)[::-1])


def leading_said(leading):
    return " ".join({-1: "-", -2: "+"}.get(entry, f"{entry}") for entry in leading)


def deed_said(width, deed):
    if deed[0] in SHIFT_NAMES:
        return f"{deed[0]} {deed[1]}"
    if deed[0] in MASK_NAMES:
        return f"{deed[0]} {word_said(width, deed[1])}"
    return f"{deed[0]} {word_said(width, deed[1])} {deed[2]}"


def deeds_said(width, row):
    return " / ".join(deed_said(width, deed) for deed in row)


def first_bad(text):
    width = None
    sorts = {}
    for number, row in enumerate(text.split("\n")):
        row = re.sub(" +", " ", row.strip(" "))
        if row == "":
            continue
        if width is None:
            found = re.fullmatch("width ([1-9][0-9]*)", row)
            if found is None or int(found[1]) > 64:
                return number
            width = int(found[1])
        elif not stands_as_thing(width, sorts, row) and not stands_as_ask(width, sorts, row):
            return number
    return None if width is not None else text.count("\n") + 1


def stands_as_thing(width, sorts, row):
    found = re.fullmatch(f"(lead|row) ({NAME})(?: (.*))?", row)
    if found is None or found[2] in sorts:
        return False
    if found[1] == "lead" and not is_said_leading(width, found[3] or ""):
        return False
    if found[1] == "row" and found[3] is not None:
        if not all(is_said_deed(width, deed) for deed in found[3].split(" / ")):
            return False
    sorts[found[2]] = found[1]
    return True


def is_said_leading(width, text):
    entries = text.split(" ")
    if len(entries) != width or not all(re.fullmatch(f"{PLACE}|-|[+]", entry) for entry in entries):
        return False
    return all(entry in ("-", "+") or int(entry) < width for entry in entries)


def is_said_deed(width, text):
    mask = f"[01]{{{width}}}"
    found = re.fullmatch(f"(and|or|gather|strew) ({mask})", text)
    if found:
        return True
    found = re.fullmatch(f"(left|right|turn) ({NUMBER})", text)
    if found:
        return may_stand(width, (found[1], int(found[2])))
    found = re.fullmatch(f"({'|'.join(PAIR_NAMES)}) ({mask}) ({NUMBER})", text)
    return found is not None and may_stand(width, (found[1], int(found[2], 2), int(found[3])))


def stands_as_ask(width, sorts, row):
    found = re.fullmatch(f"(word|leads|same|halves|deed|few|short|undo) ({NAME})(?: (.*))?", row)
    if found is None or found[2] not in sorts:
        return False
    ask, name, more = found[1], found[2], found[3]
    if ask == "word":
        return more is not None and re.fullmatch(f"[01]{{{width}}}", more) is not None
    if ask == "same":
        return more in sorts
    if more is not None or (ask == "few" and width > 3):
        return False
    return ask not in ("short", "undo") or sorts[name] == "row"
