"""Rows that are built by a rule, and lists of all rows."""


def halving_row(count, level):
    """The halving row for a count of at least 1 and a level."""
    if level == 0:
        return ()
    row = halving_row(count, level - 1)
    before = (count - 1) // 2
    after = count // 2
    if before > 0:
        row = halving_row(before, level) + (level,) + row
    if after > 0:
        row = row + (level,) + halving_row(after, level)
    return row


def plain_row(count, level):
    """The plain row for a count of at least 1 and a level."""
    if level == 0:
        return ()
    part = plain_row(count, level - 1)
    return part + ((level,) + part) * (count - 1)


def rows_of(height, count):
    """All rows of this number of levels, in lexicographic order."""
    rows = [()]
    for _ in range(count):
        rows = [row + (level,) for row in rows for level in range(1, height + 1)]
    return rows


def rows_up_to(height, most):
    """All rows of at most this number of levels, in the order of rows."""
    return [row for count in range(most + 1) for row in rows_of(height, count)]
