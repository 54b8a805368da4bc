"""The rows of a journal by their form, and how they are written."""

from joinedfolk.errors import BadJournal
from joinedfolk.names import is_kind, is_whole, is_word

FIGURES = "0123456789"
NONE = "-"

# A deed: what each of its arguments is by its form.
FORMS = {
    "found": ("word",),
    "come": ("kind", "word", "word"),
    "go": ("number",),
    "put_in": ("number", "number"),
    "take_out": ("number", "number"),
    "call": ("number", "word"),
    "move": ("number", "word", "word or none"),
    "merge": ("word", "word"),
    "trust": ("word", "word"),
    "mistrust": ("word", "word"),
}


def fits(part, form):
    """Whether an argument of a deed is of a form."""
    if form == "number":
        return is_whole(part) and part >= 0
    if form == "kind":
        return is_kind(part)
    if form == "word or none" and part is None:
        return True
    return is_word(part)


def is_row(thing):
    """Whether a thing is a row of a journal by its form."""
    if not isinstance(thing, tuple) or not thing:
        return False
    deed, *parts = thing
    if not isinstance(deed, str) or deed not in FORMS or len(parts) != len(FORMS[deed]):
        return False
    return all([fits(part, form) for part, form in zip(parts, FORMS[deed])])


def check_rows(rows):
    """Refuse what is no list of rows by their form."""
    if not isinstance(rows, list):
        raise BadJournal(None)
    for place, row in enumerate(rows):
        if not is_row(row):
            raise BadJournal(place)


def number_text(number):
    """The figures of a number from 0 on; Python's own str refuses one of some thousands of figures."""
    figures = [FIGURES[number % 10]]
    while number >= 10:
        number = number // 10
        figures.append(FIGURES[number % 10])
    return "".join(reversed(figures))


def is_number_text(text):
    """Whether a text is that of a number: each number is written in one way alone."""
    if text == "" or not all([sign in FIGURES for sign in text]):
        return False
    return text == "0" or not text.startswith("0")


def read_number(text):
    """The number of a number's text; Python's own int refuses some thousands of figures."""
    number = 0
    for sign in text:
        number = number * 10 + FIGURES.index(sign)
    return number


def part_text(part):
    """The text of a part of a row."""
    if part is None:
        return NONE
    return part if isinstance(part, str) else number_text(part)


def read_part(text, form):
    """What a text writes where an argument of a form is due; the text itself, if that is nothing else."""
    if form == "number" and is_number_text(text):
        return read_number(text)
    if form == "word or none" and text == NONE:
        return None
    return text


def read_row(line):
    """The row that a line writes; None, if it writes none."""
    deed, *rest = line.split(" ")
    forms = FORMS.get(deed, ())
    if len(rest) != len(forms):
        return None
    row = (deed,) + tuple([read_part(text, form) for text, form in zip(rest, forms)])
    return row if is_row(row) else None


def journal_text(rows):
    """The text of a journal."""
    check_rows(rows)
    return "\n".join([" ".join([part_text(part) for part in row]) for row in rows])


def read_journal(text):
    """The journal that a text writes."""
    if not isinstance(text, str):
        raise BadJournal(None)
    # The text without signs would else be that of one line without signs.
    lines = text.split("\n") if text else []
    rows = []
    for place, line in enumerate(lines):
        row = read_row(line)
        if row is None:
            raise BadJournal(place)
        rows.append(row)
    return rows
