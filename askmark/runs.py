"""What both ways of making a run share: how two numbers are added, and the world."""

from askmark.pieces import LARGEST_NUMBER


def added(first, second):
    """Add two numbers, less 1000 where the sum is greater than 999."""
    total = first + second
    if total > LARGEST_NUMBER:
        return total - (LARGEST_NUMBER + 1)
    return total


class World:
    """The rows of lines and coins of one run, and how many of each it has answered with."""

    def __init__(self, lines, coins):
        self._rows = {"line": lines, "coin": coins}
        self._used = {"line": 0, "coin": 0}

    def answer(self, kind):
        """Tell the next number of this kind; 0 where there are no more."""
        row = self._rows[kind]
        # Counted, not taken out: the rows belong to the caller.
        at = self._used[kind]
        if at == len(row):
            return 0
        self._used[kind] = at + 1
        return row[at]
