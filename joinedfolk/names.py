"""Whole numbers, words and names, and how names are written."""

from joinedfolk.errors import BadName

SIGNS = "abcdefghijklmnopqrstuvwxyz0123456789"
MOST_SIGNS = 8
KINDS = ("one", "group")


def is_whole(thing):
    """Whether a thing is a whole number."""
    return isinstance(thing, int) and not isinstance(thing, bool)


def is_word(thing):
    """Whether a thing is a word: 1 to 8 small letters and figures."""
    if not isinstance(thing, str):
        return False
    return 1 <= len(thing) <= MOST_SIGNS and all([sign in SIGNS for sign in thing])


def is_kind(thing):
    """Whether a thing is a kind: that of people or that of groups."""
    return isinstance(thing, str) and thing in KINDS


def is_name(thing):
    """Whether a thing is a name: a tuple (kind, word, house)."""
    if not isinstance(thing, tuple) or len(thing) != 3:
        return False
    kind, word, house = thing
    return is_kind(kind) and is_word(word) and is_word(house)


def name_text(name):
    """The text of a name."""
    if not is_name(name):
        raise BadName("this is no name")
    kind, word, house = name
    ahead = "#" if kind == "group" else ""
    return f"{ahead}{word}@{house}"


def read_name(text):
    """The name that a text writes."""
    if not isinstance(text, str):
        raise BadName("this is no text")
    kind, rest = ("group", text[1:]) if text.startswith("#") else ("one", text)
    # Without the sign @ the house is empty, and so no word.
    word, between, house = rest.partition("@")
    name = (kind, word, house)
    if not is_name(name):
        raise BadName("this is no text of a name")
    return name
