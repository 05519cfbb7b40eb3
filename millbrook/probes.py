"""Probes: rows and places that find out which kinds a house names [51], [52]."""

from millbrook.errors import InvalidKinds, InvalidLog
from millbrook.houses import House, number_of_text
from millbrook.logs import Log
from millbrook.values import check_answer

# The third stones of a probe and its two neighbours in ascending order, and in the order of the row.
_BY_WEIGHT = ("l-", "-l", "lighter", "b-", "-b", "heavier", "h-", "-h")
_BY_INDEX = ("l-", "b-", "h-", "lighter", "heavier", "-l", "-b", "-h")


def _check_kinds(kinds):
    """Raises InvalidKinds unless this is a list or a tuple of different kinds."""
    if not isinstance(kinds, (list, tuple)):
        raise InvalidKinds(kinds)
    if not all([isinstance(kind, str) and kind in House.KINDS for kind in kinds]):
        raise InvalidKinds(kinds)
    if len(set(kinds)) < len(kinds):
        raise InvalidKinds(kinds)


def _probe_of(kinds):
    """The probe of the kinds, without checking them."""
    held = ("lighter", "heavier", *kinds)
    by_weight = [part for part in _BY_WEIGHT if part in held]
    row = [by_weight.index(part) + 1 for part in _BY_INDEX if part in held]
    return tuple(row), row.index(by_weight.index("lighter") + 1)


def probe(kinds):
    """The row and the place with exactly one third stone of each of the kinds."""
    _check_kinds(kinds)
    return _probe_of(kinds)


def _greater_part(number, fitting):
    """The size of the greater of the parts into which the kinds with the number divide the numbers of houses."""
    common = len([house for house in fitting if house & number > 0])
    return max(common, len(fitting) - common)


def best_probe(log):
    """The probe that divides the fitting houses best, or None if fewer than two fit."""
    if not isinstance(log, Log):
        raise InvalidLog(log)
    fitting = [number_of_text(text) for text in log.fitting()]
    if len(fitting) < 2:
        return None
    # The first of equally good ones is taken, which is the one with the least number.
    best = min(House.every(), key=lambda house: _greater_part(house.number, fitting))
    return _probe_of(best.named())


def find_house(ask):
    """The house of the kinds whose probes are answered with True, or None if there are none."""
    number = 0
    for index, kind in enumerate(House.KINDS):
        row, place = _probe_of([kind])
        answer = ask(row, place)
        check_answer(answer)
        if answer:
            number += 1 << index
    return None if number == 0 else House.by_number(number)
