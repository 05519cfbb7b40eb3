"""The sorts, carries and grades of the houses, and carried rows [24]."""

from millbrook.errors import InvalidRow
from millbrook.houses import House
from millbrook.rows import flipped_row, mirrored_row
from millbrook.sorts import carried_row, grade_of, sort_of
from tests import reading
from tests.support import LONG_ROWS, TOP, MillTest

HOUSES = House.every()
ROWS = ((), (5,), (5, 2), (2, 5), (30, 10, 20), (3, 1, 4, 2), (-TOP, TOP, 0, 7, -7)) + LONG_ROWS


class Sorts(MillTest):

    def test_the_first_houses(self):
        for number, (text, _, grade, _) in enumerate(reading.TABLE, 1):
            self.check_kinds(sort_of(House(text)), (number, "same"))
            self.check_kinds(grade_of(House(text)), grade)

    def test_every_house_against_the_table(self):
        for house in HOUSES:
            self.check_kinds(sort_of(house), reading.sort_and_carry(house.text))
            self.check_kinds(grade_of(house), reading.TABLE[sort_of(house)[0] - 1][2])

    def test_the_numbers_of_houses(self):
        sorts = [sort_of(house)[0] for house in HOUSES]
        self.assertEqual([sorts.count(sort) for sort in range(1, 24)], [houses for _, houses, _, _ in reading.TABLE])

    def test_the_carry_is_the_first_word_that_leads_to_the_first_house(self):
        turns = {
            "same": lambda house: house, "mirrored": lambda house: house.mirrored(),
            "flipped": lambda house: house.flipped(), "both": lambda house: house.flipped().mirrored(),
        }
        for house in HOUSES:
            sort, carry = sort_of(house)
            first = reading.TABLE[sort - 1][0]
            fitting = [word for word in reading.CARRIES if turns[word](house).text == first]
            self.assertEqual(carry, fitting[0])

    def test_some_carries(self):
        for text, sort, carry in (("-h", 1, "both"), ("h-", 1, "flipped"), ("-l", 1, "mirrored"), ("-b", 2, "mirrored"),
                                  ("h-l", 3, "mirrored"), ("-lh", 4, "mirrored"), ("h-h", 6, "flipped"),
                                  ("b-b", 8, "same"), ("h-bh", 10, "both"), ("lh-lh", 17, "same"),
                                  ("lbh-lh", 22, "mirrored"), ("lbh-lbh", 23, "same")):
            self.check_kinds(sort_of(House(text)), (sort, carry))

    def test_a_house_that_was_made_by_an_operator(self):
        self.check_kinds(sort_of(House("l-") | House("-h")), (3, "same"))
        self.check_kinds(grade_of(House("lbh-l") & House("b-l")), "none")


class CarriedRows(MillTest):

    def test_every_house(self):
        for house in HOUSES:
            carry = sort_of(house)[1]
            for row in ROWS:
                self.check_kinds(carried_row(list(row), house), reading.carried(row, carry))
                self.check_kinds(carried_row(row, house), reading.carried(row, carry))

    def test_by_mirrored_and_flipped_rows(self):
        for row in ROWS:
            self.check_kinds(carried_row(row, House("l-")), row)
            self.check_kinds(carried_row(row, House("-l")), mirrored_row(row))
            self.check_kinds(carried_row(row, House("h-")), flipped_row(row))
            self.check_kinds(carried_row(row, House("-h")), mirrored_row(flipped_row(row)))

    def test_the_carried_row_of_a_carried_row(self):
        for house in HOUSES:
            for row in ROWS:
                self.check_kinds(carried_row(carried_row(row, house), house), row)

    def test_too_many_stones(self):
        for house in HOUSES:
            for row in (list(range(41)), tuple(range(41))):
                self.check_error(InvalidRow(row), carried_row, row, house)
