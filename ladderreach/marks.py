"""Marks on the steps of a ladder, by which rows are held."""


def next_marks(levels, marked, level):
    """The steps above a marked one whose gap to it is the level, in ascending order."""
    found = []
    within = False
    equal = False
    for step, between in enumerate(levels):
        # These say whether some marked step up to here has a gap to the next step that is
        # at most the level, or equal to it.
        if step in marked:
            within = True
        if between > level:
            within = False
            equal = False
        elif between == level:
            equal = within
        if equal:
            found.append(step + 1)
    return found


def last_marks(levels, row):
    """The steps that can be the last one of a choice of steps whose gaps are the row, in ascending order."""
    marked = list(range(len(levels) + 1))
    for level in row:
        marked = next_marks(levels, marked, level)
    return marked


def holds(levels, row):
    """Whether the ladder with these levels holds the row."""
    return len(last_marks(levels, row)) > 0
