"""Sheets: leadings and rows of deeds under names, and what is asked of them."""

from bitlead.anyrow import any_row
from bitlead.errors import BadRow, Lost, Unhalved
from bitlead.fewest import how_few
from bitlead.kinds import is_within
from bitlead.leadings import WIDEST, led
from bitlead.onedeed import one_deed
from bitlead.rows import all_deeds, row_leading
from bitlead.shorter import shortened
from bitlead.undoing import undone, unlike_words
from bitlead.written import (
    NOTHING, deed_text, is_name, leading_text, read_figures, read_leading, read_row, read_word, row_text, word_text,
)

# What stands behind the word of each ask: a name of either sort, a row's name, or a word's bits.
ASKS = {
    "word": ("name", "bits"),
    "leads": ("name",),
    "same": ("name", "name"),
    "halves": ("name",),
    "deed": ("name",),
    "few": ("name",),
    "short": ("row",),
    "undo": ("row",),
}
WIDEST_FEW = 3


class Sheet:
    def __init__(self):
        self.width = None
        # Of either sort: a row's name tells its leading here, and its deeds among the rows.
        self.leadings = {}
        self.rows = {}
        self.asks = []


def run(text):
    sheet = Sheet()
    rows = text.split("\n")
    for number, row in enumerate(rows):
        words = [word for word in row.split(" ") if word != ""]
        if len(words) > 0 and not can_stand(sheet, words):
            raise BadRow(number)
    if sheet.width is None:
        raise BadRow(len(rows))
    return [answer(sheet.width, ask, parts) for ask, parts in sheet.asks]


def can_stand(sheet, words):
    # A row that can is taken up into the sheet at once, for the rows behind it.
    if sheet.width is None:
        return take_width(sheet, words)
    if words[0] == "lead":
        return names_a_new_one(sheet, words) and take_leading(sheet, words[1], words[2:])
    if words[0] == "row":
        return names_a_new_one(sheet, words) and take_row(sheet, words[1], words[2:])
    return take_ask(sheet, words[0], words[1:])


def take_width(sheet, words):
    if len(words) != 2 or words[0] != "width":
        return False
    width = read_figures(words[1])
    if not is_within(width, 1, WIDEST):
        return False
    sheet.width = width
    return True


def names_a_new_one(sheet, words):
    return len(words) > 1 and is_name(words[1]) and words[1] not in sheet.leadings


def take_leading(sheet, name, words):
    leading = read_leading(sheet.width, words)
    if leading is not None:
        sheet.leadings[name] = leading
    return leading is not None


def take_row(sheet, name, words):
    row = read_row(sheet.width, words)
    if row is not None:
        sheet.rows[name] = row
        sheet.leadings[name] = row_leading(sheet.width, row)
    return row is not None


def take_ask(sheet, ask, words):
    if ask not in ASKS or len(words) != len(ASKS[ask]):
        return False
    if ask == "few" and sheet.width > WIDEST_FEW:
        return False
    parts = [asked_part(sheet, sort, word) for sort, word in zip(ASKS[ask], words)]
    if None in parts:
        return False
    sheet.asks.append((ask, parts))
    return True


def asked_part(sheet, sort, word):
    if sort == "bits":
        return read_word(sheet.width, word)
    if sort == "row":
        return sheet.rows.get(word)
    return sheet.leadings.get(word)


def answer(width, ask, parts):
    thing = parts[0]
    if ask == "word":
        return word_text(width, led(thing, parts[1]))
    if ask == "leads":
        return leading_text(thing)
    if ask == "same":
        return same_answer(thing, parts[1])
    if ask == "halves":
        return halves_answer(thing)
    if ask == "deed":
        return deed_answer(thing)
    if ask == "few":
        return str(how_few(thing, all_deeds(width)))
    if ask == "short":
        return row_text(width, shortened(width, thing))
    return undo_answer(width, thing)


def same_answer(one, other):
    word = unlike_words(one, other)
    if word is None:
        return "same"
    bits = word_text(len(one), word)
    return f"unlike {bits}"


def halves_answer(leading):
    try:
        return row_text(len(leading), any_row(leading))
    except Unhalved:
        return NOTHING


def deed_answer(leading):
    deed = one_deed(leading)
    return NOTHING if deed is None else deed_text(len(leading), deed)


def undo_answer(width, row):
    try:
        return row_text(width, undone(width, row))
    except Lost as lost:
        place = lost.place
        return f"lost {place}"
