"""Numbers as they are written: by digits, with a minus ahead below 0."""

DIGITS = "0123456789"
MOST_DIGITS = 60


def number_of(word):
    """The number that the word writes, or None of a word that writes none."""
    digits = word.removeprefix("-")
    if not 1 <= len(digits) <= MOST_DIGITS or not all([sign in DIGITS for sign in digits]):
        return None
    number = int(word)
    # Each number is written in one way: no 0 ahead, and no minus ahead of 0.
    return number if str(number) == word else None
