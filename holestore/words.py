"""The words of lines: how they are parted, and which numbers they tell."""

from holestore.errors import BadString

DIGITS = "0123456789"
MOST_DIGITS = 7


def check_string(value):
    """Raise BadString for a value that is no string."""
    if not isinstance(value, str):
        raise BadString("no string")


def words_of(line):
    """Return the list of the words of a line, which spaces alone part."""
    return [word for word in line.split(" ") if word != ""]


def number_of(word, least, most):
    """Return the number from least to most that a word tells, without needless noughts; None for another word."""
    digits = word.removeprefix("-")
    # No number that may be told is longer, and Python makes no numbers of strings of thousands of digits.
    if not 1 <= len(digits) <= MOST_DIGITS or not all([digit in DIGITS for digit in digits]):
        return None
    number = int(word)
    # Needless noughts, and a minus ahead of 0, are not in what Python writes for a number.
    if str(number) != word or not least <= number <= most:
        return None
    return number
