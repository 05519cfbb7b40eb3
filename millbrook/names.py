"""Names of rows and of marks [54]."""

from millbrook.errors import InvalidName

_MOST_SIGNS = 20
_LETTERS = "abcdefghijklmnopqrstuvwxyz"
_SIGNS = "abcdefghijklmnopqrstuvwxyz0123456789"


def is_name(value):
    """Tells whether the value is a name."""
    if not isinstance(value, str) or not 1 <= len(value) <= _MOST_SIGNS:
        return False
    return value[0] in _LETTERS and all([sign in _SIGNS for sign in value])


def check_name(name):
    """Raises InvalidName unless this is a name."""
    if not is_name(name):
        raise InvalidName(name)
