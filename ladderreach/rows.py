"""All rows of a length."""

from ladderreach.checks import check_height
from ladderreach.errors import BadSize, TooLarge
from ladderreach.rowshapes import rows_of

_MOST_LEVELS = 6


def all_rows(height, count):
    """Yield all rows of this number of levels, in lexicographic order."""
    check_height(height)
    if count < 0:
        raise BadSize(f"a row does not have {count} levels")
    if count > _MOST_LEVELS:
        raise TooLarge(f"not all rows of {count} levels are listed")
    yield from rows_of(height, count)
