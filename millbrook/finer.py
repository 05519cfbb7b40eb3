"""Houses, given by their numbers, of which no other one is finer, or that are finer than no other one [6]."""

from millbrook.houses import text_of_number


def texts_of(numbers):
    """The texts of the houses with these numbers."""
    return [text_of_number(number) for number in numbers]


def is_finer_number(number, other):
    """Tells whether the house with the one number is finer than that with the other one."""
    return number | other == other


def _is_another_finer(number, other):
    """Tells whether the house with the one number is finer than that with the other one and not the same."""
    return number != other and is_finer_number(number, other)


def finest_of(numbers):
    """The texts of those of these houses of which no other one of them is finer."""
    return texts_of([number for number in numbers if not any([_is_another_finer(other, number) for other in numbers])])


def coarsest_of(numbers):
    """The texts of those of these houses that are finer than no other one of them."""
    return texts_of([number for number in numbers if not any([_is_another_finer(number, other) for other in numbers])])
