"""Changes of dicts, kept so that they can be undone."""


class Ledger:
    """The changes of dicts, step by step; the latest step can be undone.

    The dicts' values are never None, so None stands for a key that was not there.
    """

    def __init__(self):
        self.steps = []

    def begin(self):
        """Begin a step."""
        self.steps.append([])

    def put(self, table, key, value):
        """Give a key of a dict a value, within the latest step."""
        self.steps[-1].append((table, key, table.get(key)))
        table[key] = value

    def drop(self, table, key):
        """Take a key that is there out of a dict, within the latest step."""
        self.steps[-1].append((table, key, table[key]))
        del table[key]

    def undo(self):
        """Undo the latest step."""
        changes = self.steps.pop()
        for table, key, before in reversed(changes):
            if before is None:
                del table[key]
            else:
                table[key] = before
