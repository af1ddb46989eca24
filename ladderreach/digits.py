"""Numbers as they are written in texts."""


def is_number(word):
    """Whether the word is a number in decimal digits without leading zeros."""
    return word == "0" or (word.isascii() and word.isdigit() and not word.startswith("0"))
