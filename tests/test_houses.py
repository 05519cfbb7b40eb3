"""Houses [6]."""

from itertools import product

from millbrook.errors import InvalidHouse, InvalidNumber
from millbrook.houses import House
from tests import plain, support
from tests.support import MillTest

TEXTS = plain.house_texts()
KINDS = ("l-", "b-", "h-", "-l", "-b", "-h")


def kinds_text(kinds):
    """The text of the house with these kinds."""
    before = "".join(letter for letter in "lbh" if letter + "-" in kinds)
    return before + "-" + "".join(letter for letter in "lbh" if "-" + letter in kinds)


class Houses(MillTest):

    def test_all_texts_and_numbers(self):
        self.assertEqual(len(TEXTS), 63)
        for number, text in enumerate(TEXTS, 1):
            house = House(text)
            self.check_kinds(house.text, text)
            self.check_kinds(house.number, number)
            self.check_kinds(
                house.number, sum(2**at for at, kind in enumerate(KINDS) if kind in plain.kinds_in(text)))
            self.check_kinds(str(house), text)
            self.check_kinds(repr(house), f"House('{text}')")

    def test_kinds(self):
        self.check_kinds(House.KINDS, KINDS)
        for text in TEXTS:
            house = House(text)
            self.check_kinds(house.named(), [kind for kind in KINDS if kind in plain.kinds_in(text)])
            self.check_kinds(len(house), len(text) - 1)
            for kind in KINDS:
                self.check_kinds(kind in house, kind in plain.kinds_in(text))

    def test_examples_of_the_document(self):
        self.assertEqual(House("l-h").named(), ["l-", "-h"])
        self.assertEqual(House("lbh-").named(), ["l-", "b-", "h-"])
        self.assertEqual(House("-b").named(), ["-b"])
        self.assertEqual(repr(House("l-h")), "House('l-h')")

    def test_other_values_are_no_kinds(self):
        for house in House.every():
            for value in support.NOT_TEXTS + (
                    "", "-", "l", "b", "h", "lb-", "l-h", "L-", "l -", "l-l", " l-", 0, 1, 33, ["l-"], ("l-",)):
                self.assertIs(value in house, False)

    def test_all_texts_of_few_signs(self):
        for length in range(5):
            for signs in product("lbh-x", repeat=length):
                text = "".join(signs)
                if text in TEXTS:
                    self.assertEqual(House(text).text, text)
                else:
                    self.check_error(InvalidHouse(text), House, text)

    def test_by_number(self):
        for number, text in enumerate(TEXTS, 1):
            house = House.by_number(number)
            self.assertIs(type(house), House)
            self.check_kinds((house.number, house.text), (number, text))
        self.check_error(InvalidNumber(0), House.by_number, 0)
        self.check_error(InvalidNumber(64), House.by_number, 64)

    def test_every(self):
        houses = House.every()
        self.assertIs(type(houses), list)
        self.assertEqual([house.text for house in houses], TEXTS)
        houses.clear()
        self.assertEqual(len(House.every()), 63)

    def test_mirrored_and_flipped(self):
        exchanged = {"l": "h", "h": "l", "b": "b", "-": "-"}
        for text in TEXTS:
            kinds = plain.kinds_in(text)
            self.assertEqual(House(text).mirrored().text, kinds_text({kind[::-1] for kind in kinds}))
            flipped = {"".join(exchanged[sign] for sign in kind) for kind in kinds}
            self.assertEqual(House(text).flipped().text, kinds_text(flipped))
            self.assertIs(type(House(text).mirrored()), House)
            self.assertIs(type(House(text).flipped()), House)

    def test_every_pair_of_houses(self):
        for one in House.every():
            for other in House.every():
                kinds, others = set(one.named()), set(other.named())
                self.assertIs(one == other, kinds == others)
                self.assertIs(one != other, kinds != others)
                self.assertIs(one.is_finer(other), kinds <= others)
                self.assertEqual((one | other).text, kinds_text(kinds | others))
                if kinds & others:
                    self.assertEqual((one & other).text, kinds_text(kinds & others))
                else:
                    self.check_error(InvalidHouse("-"), lambda: one & other)

    def test_equal_houses_are_other_objects(self):
        one, other = House("l-h"), House("l-h")
        self.assertIsNot(one | other, one)
        self.assertTrue(one == other)
        self.assertFalse(one != other)

    def test_other_values_are_not_equal(self):
        for value in support.not_houses():
            self.assertIs(House("l-h") == value, False)
            self.assertIs(House("l-h") != value, True)

    def test_right_hand_values_that_are_no_houses(self):
        house = House("l-h")
        for value in support.not_houses():
            self.check_error(InvalidHouse(value), house.is_finer, value)
            self.check_error(InvalidHouse(value), lambda: house | value)
            self.check_error(InvalidHouse(value), lambda: house & value)

    def test_houses_stay_as_they_are(self):
        house = House("lb-h")
        named = house.named()
        named.append("-l")
        house.mirrored(), house.flipped(), house | House("-l"), house & House("l-")
        self.assertEqual((house.text, house.number, house.named()), ("lb-h", 35, ["l-", "b-", "-h"]))

    def test_houses_are_no_keys(self):
        with self.assertRaises(TypeError):
            hash(House("l-h"))

    def test_example(self):
        house = House("l-h")
        self.assertEqual(
            [house.number, str(house.mirrored()), str(house.flipped()), str(house | House("b-")), len(house)],
            [33, "h-l", "h-l", "lb-h", 2])
