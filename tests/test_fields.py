"""Points [1] and [5]: fields and their elements."""

import unittest

from draws import ODD_VALUES, Draws
from listpicks.fields import element, inverse, is_field

PRIMES = (2, 3, 5, 7, 11, 13, 17, 19, 23, 29, 31, 37, 41, 43, 47, 53, 59, 61, 67, 71, 73, 79, 83, 89, 97, 101)


class Fields(unittest.TestCase):
    def test_just_these_numbers_are_fields(self):
        for number in range(-130, 1000):
            self.assertIs(is_field(number), number == 0 or number in PRIMES, number)

    def test_great_primes_are_none(self):
        for number in (103, 107, 109, 127, 10 ** 9 + 7, 2 ** 89 - 1, 10 ** 3000):
            self.assertIs(is_field(number), False)

    def test_values_of_other_kinds_are_none(self):
        for value in ODD_VALUES:
            wanted = type(value) is int and value in (0, 7)
            self.assertIs(is_field(value), wanted, value)
        for value in (2.0, 3.0, 0.0, "2", "0", (2,), [3], True, False, b"\x02"):
            self.assertIs(is_field(value), False, value)

    def test_element_of_the_field_0_is_the_integer(self):
        for number in (0, 1, -1, 17, -17, 10 ** 40, -10 ** 40):
            self.assertEqual(element(0, number), number)

    def test_element_is_what_is_left(self):
        for p in PRIMES:
            for number in list(range(-2 * p - 1, 2 * p + 2)) + [10 ** 40, -10 ** 40]:
                left = element(p, number)
                self.assertTrue(0 <= left < p)
                self.assertEqual((number - left) % p, 0)
        self.assertEqual((element(5, -1), element(5, 5), element(5, 14), element(2, -3)), (4, 0, 4, 1))

    def test_inverse_multiplies_to_1(self):
        for p in PRIMES:
            for one in range(1, p):
                found = inverse(p, one)
                self.assertIs(type(found), int)
                self.assertTrue(0 < found < p)
                self.assertEqual(found * one % p, 1)

    def test_arithmetic_is_modulo_p(self):
        draws = Draws(5)
        for _ in range(200):
            p = draws.one_of(PRIMES)
            one, other = draws.between(-999, 999), draws.between(-999, 999)
            self.assertEqual(element(p, one + other), element(p, element(p, one) + element(p, other)))
            self.assertEqual(element(p, one * other), element(p, element(p, one) * element(p, other)))


if __name__ == "__main__":
    unittest.main()
