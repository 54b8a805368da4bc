"""The refusals: each stands under RoofError, and none under another."""


class RoofError(ValueError):
    """Whatever is refused."""


class BadName(RoofError):
    """What should be a word, a kind, a name or a name's text is none."""


class NoHouse(RoofError):
    """A house is not there, or two houses that should be unlike are one."""


class NoOne(RoofError):
    """A person or group is not there; who is what was handed in."""

    def __init__(self, who):
        self.who = who


class Taken(RoofError):
    """A house's word or a name is another's already; taken is that one."""

    def __init__(self, taken):
        self.taken = taken


class BadRule(RoofError):
    """What should be a list of rules is none."""


class BadTime(RoofError):
    """What should be a time of the roof is none."""


class BadJournal(RoofError):
    """A journal can't be; row is the place of its first wrong row, or None."""

    def __init__(self, row):
        self.row = row


class Nothing(RoofError):
    """There is no deed to take back."""
