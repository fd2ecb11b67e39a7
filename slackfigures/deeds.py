"""Deeds as texts: a row for each deed."""

from slackfigures.errors import NoText
from slackfigures.numerals import number_of

MOST_FIGURES = 250


def show_word(thing):
    """The word of a number, of None, or of the deed's name."""
    return "none" if thing is None else str(thing)


def show_deed(deed):
    """The row of the deed, its words parted by blanks."""
    return " ".join([show_word(thing) for thing in deed])


def show_deeds(deeds):
    """The text of the deeds, their rows parted by line feeds."""
    return "\n".join([show_deed(deed) for deed in deeds])


def read_number(word):
    """The number that the word writes."""
    number = number_of(word)
    if number is None:
        raise NoText("a word that writes no number")
    return number


def read_division(name, words):
    """The deed of that name that begins a division by the numbers that the words write."""
    x, divisor, many = [read_number(word) for word in words]
    if divisor < 1 or not 0 <= many <= MOST_FIGURES:
        raise NoText("a number where it may not be")
    return name, x, divisor, many


def read_deed(line):
    """The deed that the row writes."""
    words = line.split(" ")
    match words:
        case ["begin", x, divisor, many]:
            return read_division("begin", [x, divisor, many])
        case ["rows", x, divisor, many]:
            return read_division("rows", [x, divisor, many])
        case ["step", number]:
            return "step", read_number(number)
        case ["put", top, look, figure]:
            return "put", read_number(top), read_number(look), None if figure == "none" else read_number(figure)
        case _:
            raise NoText("a row that writes no deed")


def read_deeds(text):
    """The deeds that the text writes, none where it has no signs."""
    if text == "":
        return []
    return [read_deed(line) for line in text.split("\n")]
