"""Rows that are built by a rule."""


def halving_row(count, level):
    """The halving row for a count of at least 1 and a level."""
    if level == 0:
        return ()
    row = halving_row(count, level - 1)
    before = (count - 1) // 2
    after = count // 2
    if before > 0:
        row = halving_row(before, level) + (level,) + row
    if after > 0:
        row = row + (level,) + halving_row(after, level)
    return row


def plain_row(count, level):
    """The plain row for a count of at least 1 and a level."""
    if level == 0:
        return ()
    part = plain_row(count, level - 1)
    return part + ((level,) + part) * (count - 1)
