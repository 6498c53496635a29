"""How the parts of a sheet are written: what a reader is handed is told as None where it isn't so written."""

from bitlead.deeds import is_deed
from bitlead.leadings import NOUGHT, ONE, is_leading
from bitlead.words import bit_at, mask_of

LETTERS = "abcdefghijklmnopqrstuvwxyz"
LONGEST_NAME = 8
FIGURES = "0123456789"
# No number that may stand on a sheet has more.
MOST_FIGURES = 2

SHIFT_NAMES = ("left", "right", "turn")
STROKE = "/"
NOTHING = "none"


def is_name(text):
    return 1 <= len(text) <= LONGEST_NAME and has_only(text, LETTERS)


def has_only(text, signs):
    return all([sign in signs for sign in text])


def read_figures(text):
    if not 1 <= len(text) <= MOST_FIGURES or not has_only(text, FIGURES):
        return None
    number = int(text)
    # A nought ahead would be gone when the number is written again.
    return number if str(number) == text else None


def read_number(text):
    if not text.startswith("-"):
        return read_figures(text)
    number = read_figures(text[1:])
    return None if number is None or number == 0 else -number


def read_word(width, text):
    if len(text) != width or not has_only(text, "01"):
        return None
    return mask_of([place for place, sign in enumerate(reversed(text)) if sign == "1"])


def word_text(width, word):
    return "".join(["1" if bit_at(word, width - 1 - number) == 1 else "0" for number in range(width)])


def read_entry(text):
    if text == "-":
        return NOUGHT
    if text == "+":
        return ONE
    return read_figures(text)


def entry_text(entry):
    if entry == NOUGHT:
        return "-"
    if entry == ONE:
        return "+"
    return str(entry)


def read_leading(width, texts):
    leading = tuple([read_entry(text) for text in texts])
    return leading if len(leading) == width and is_leading(leading) else None


def leading_text(leading):
    return " ".join([entry_text(entry) for entry in leading])


def read_deed(width, texts):
    deed = deed_parts(width, texts)
    return deed if is_deed(width, deed) else None


def deed_parts(width, texts):
    if len(texts) == 3:
        return (texts[0], read_word(width, texts[1]), read_number(texts[2]))
    if len(texts) != 2:
        return None
    if texts[0] in SHIFT_NAMES:
        return (texts[0], read_number(texts[1]))
    return (texts[0], read_word(width, texts[1]))


def deed_text(width, deed):
    if deed[0] in SHIFT_NAMES:
        return " ".join([deed[0], str(deed[1])])
    return " ".join([deed[0], word_text(width, deed[1])] + [str(by) for by in deed[2:]])


def read_row(width, texts):
    if len(texts) == 0:
        return []
    row = [read_deed(width, part) for part in parted_at_strokes(texts)]
    return None if None in row else row


def parted_at_strokes(texts):
    parts = [[]]
    for text in texts:
        if text == STROKE:
            parts.append([])
        else:
            parts[-1].append(text)
    return parts


def row_text(width, row):
    if len(row) == 0:
        return NOTHING
    return " / ".join([deed_text(width, deed) for deed in row])
