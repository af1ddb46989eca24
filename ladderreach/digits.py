"""Numbers as they are written in texts."""


def is_number(word):
    """Whether the word is a number in decimal digits without leading zeros."""
    if not (word.isascii() and word.isdigit()):
        return False
    return word == "0" or not word.startswith("0")
