"""Sheets drawn, the same in every run, and the answers that the functions themselves tell for them."""

from bitlead.anyrow import any_row
from bitlead.errors import Lost
from bitlead.fewest import how_few
from bitlead.leadings import led
from bitlead.onedeed import one_deed
from bitlead.rows import all_deeds, row_leading
from bitlead.shorter import shortened
from bitlead.undoing import undone, unlike_words
from tests.drawing import HALVED, drawn_leading, drawn_row, drawn_word
from tests.sheetmodel import deed_said, deeds_said, leading_said, word_said


def sheet(width, *rows):
    return "\n".join([f"width {width}"] + list(rows))


def lead_row(name, leading):
    return f"lead {name} {leading_said(leading)}"


def deeds_row(width, name, row):
    return f"row {name} {deeds_said(width, row)}" if row else f"row {name}"


def row_answer(width, row):
    return deeds_said(width, row) if row else "none"


def undo_answer(width, row):
    try:
        return row_answer(width, undone(width, row))
    except Lost as lost:
        return f"lost {lost.place}"


def drawn_sheet(draw, width, many):
    rows = []
    asked = []
    leadings = {}
    deeds = {}
    for number in range(many):
        name = "abcdefghijklmnopqrstuvwxyz"[number % 26] * (number // 26 + 1)
        if draw.random() < 0.4 or not leadings:
            if draw.random() < 0.5:
                leadings[name] = drawn_leading(draw, width)
                rows.append(lead_row(name, leadings[name]))
            else:
                deeds[name] = drawn_row(draw, width, draw.randrange(3))
                leadings[name] = row_leading(width, deeds[name])
                rows.append(deeds_row(width, name, deeds[name]))
            continue
        row, answer = drawn_ask(draw, width, leadings, deeds)
        rows.append(row)
        asked.append(answer)
    return rows, asked


def drawn_ask(draw, width, leadings, deeds):
    name, other = draw.choice(sorted(leadings)), draw.choice(sorted(leadings))
    word = drawn_word(draw, width)
    unlike = unlike_words(leadings[name], leadings[other])
    deed = one_deed(leadings[name])
    halved = width in HALVED
    choices = [
        (f"word {name} {word_said(width, word)}", word_said(width, led(leadings[name], word))),
        (f"leads {name}", leading_said(leadings[name])),
        (f"same {name} {other}", "same" if unlike is None else f"unlike {word_said(width, unlike)}"),
        (f"deed {name}", "none" if deed is None else deed_said(width, deed)),
        (f"halves {name}", deeds_said(width, any_row(leadings[name])) if halved else "none"),
    ]
    if width <= 3:
        choices.append((f"few {name}", f"{how_few(leadings[name], all_deeds(width))}"))
    if name in deeds:
        choices.append((f"short {name}", row_answer(width, shortened(width, deeds[name]))))
        choices.append((f"undo {name}", undo_answer(width, deeds[name])))
    return draw.choice(choices)
