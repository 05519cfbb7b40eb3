"""Checks of single values that are not rows [4]."""

from millbrook.errors import InvalidAnswer, InvalidNumber, TooMany


def is_integer(value):
    """Tells whether the value is an integer; True and False are none here."""
    return isinstance(value, int) and not isinstance(value, bool)


def is_number(value, low, high):
    """Tells whether the value is an integer from low to high."""
    return is_integer(value) and low <= value <= high


def check_number(number, low, high):
    """Raises InvalidNumber unless the number is an integer from low to high."""
    if not is_number(number, low, high):
        raise InvalidNumber(number)


def check_answer(answer):
    """Raises InvalidAnswer unless this is True or False itself."""
    if answer is not True and answer is not False:
        raise InvalidAnswer(answer)


def check_room(held, most):
    """Raises TooMany if one more than what is held would be more than the limit."""
    if held >= most:
        raise TooMany(most, held + 1)
