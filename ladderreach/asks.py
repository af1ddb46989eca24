"""Asks: conditions on ladders, given by rows of which at least one has to be held."""

from ladderreach.checks import check_height, check_row, check_same_height
from ladderreach.errors import TooLarge
from ladderreach.marks import holds
from ladderreach.rowshapes import rows_up_to

_MOST_LEVELS = 8


class Ask:
    """A height and the least of some rows."""

    def __init__(self, height, rows):
        check_height(height)
        for row in rows:
            check_row(height, row, _MOST_LEVELS)
        self.height = height
        self.rows = _least_rows(rows)

    def __eq__(self, other):
        return isinstance(other, Ask) and self.height == other.height and self.rows == other.rows

    def __contains__(self, ladder):
        check_same_height(self.height, ladder.height)
        return _meets(ladder.levels, self.rows)

    def __or__(self, other):
        check_same_height(self.height, other.height)
        return Ask(self.height, self.rows + other.rows)

    def __and__(self, other):
        check_same_height(self.height, other.height)
        _check_short(self)
        _check_short(other)
        # No least row of the new ask is longer than this.
        most = _most_levels(self.rows) + _most_levels(other.rows) + 1
        rows = rows_up_to(self.height, most)
        return Ask(self.height, [row for row in rows if _meets(row, self.rows) and _meets(row, other.rows)])

    @staticmethod
    def never(height):
        """The ask that no ladder meets."""
        return Ask(height, [])

    @staticmethod
    def always(height):
        """The ask that every ladder meets."""
        return Ask(height, [()])

    def within(self, other):
        """None if every ladder that meets this ask meets the other one, else the first row that does not."""
        check_same_height(self.height, other.height)
        for row in self.rows:
            if not _meets(row, other.rows):
                return row
        return None


def _least_rows(rows):
    """The tuple of those rows that hold no other one, each once, in the order of rows."""
    ordered = sorted({(len(row), tuple(row)) for row in rows})
    distinct = [row for _, row in ordered]
    # A row that holds another one is longer, so that only the rows before it count.
    return tuple([row for index, row in enumerate(distinct) if not _meets(row, distinct[:index])])


def _meets(levels, rows):
    """Whether the ladder with these levels holds at least one of the rows."""
    return any([holds(levels, row) for row in rows])


def _most_levels(rows):
    """The number of levels of the longest row, 0 if there is none."""
    return max([len(row) for row in rows], default=0)


def _check_short(ask):
    """Raise TooLarge if a least row is too long for the ask to be joined with another one."""
    most = 1 if ask.height == 3 else 2
    if _most_levels(ask.rows) > most:
        raise TooLarge(f"a least row has more than {most} levels")
