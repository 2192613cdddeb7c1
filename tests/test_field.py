"""Point 2.1: moduli, powers and inverses."""

import unittest

from layerask.errors import FieldError
from layerask.field import are_numbers, check_modulus, inverse, is_number, is_prime, power
from plain import GREATEST, raised


class PrimeTest(unittest.TestCase):
    def test_all_small_numbers(self):
        limit = 3000
        for number in range(limit):
            divisors = [k for k in range(1, number + 1) if number % k == 0]
            self.assertIs(is_prime(number), len(divisors) == 2, number)

    def test_great_numbers(self):
        for number in (2147483647, 2147483629, 2147483587, 1000000007, 65537, 46337):
            self.assertIs(is_prime(number), True, number)
        # The second one is the square of the greatest prime below the root of the limit.
        for number in (2147483646, 46337 * 46337, 46309 * 46337, 561, 1729, 3215031751 // 3, 2147483643, 1000000005):
            self.assertIs(is_prime(number), False, number)


class ModulusTest(unittest.TestCase):
    def test_allowed(self):
        for p in (2, 3, 5, 97, 65537, 2147483629, GREATEST):
            self.assertIsNone(check_modulus(p))

    def test_not_allowed(self):
        for p in (0, 1, 4, 9, 91, -1, -2, -7, 2147483646, 2147483648, 2147483659, 10 ** 30, 10 ** 5000, -10 ** 5000):
            raised(self, FieldError, "number", p, check_modulus, p)


class PowerTest(unittest.TestCase):
    def test_against_python(self):
        for p in (2, 3, 7, 97, GREATEST):
            for base in (0, 1, 2, 5, p - 1, p, p + 3, -1, -5, 10 ** 40 + 1, -10 ** 40):
                for exponent in (0, 1, 2, 3, 17, p - 2, p - 1, p, 10 ** 50 + 7):
                    self.assertEqual(power(base, exponent, p), pow(base, exponent, p))

    def test_exponent_zero(self):
        for p in (2, 3, GREATEST):
            for base in (0, 1, p, -p):
                self.assertEqual(power(base, 0, p), 1)


class InverseTest(unittest.TestCase):
    def test_all_of_small_moduli(self):
        for p in (2, 3, 5, 97):
            for number in range(1, p):
                found = inverse(number, p)
                self.assertTrue(0 < found < p)
                self.assertEqual(number * found % p, 1)

    def test_any_integers(self):
        for p in (2, 5, GREATEST):
            for number in (1, -1, p + 1, 1 - p, 3 * p - 1, 10 ** 40 * p + 1):
                self.assertEqual(inverse(number, p), pow(number, -1, p))

    def test_zero(self):
        for p in (2, 97, GREATEST):
            for number in (0, p, -p, 3 * p, 10 ** 40 * p):
                raised(self, FieldError, "number", number, inverse, number, p)


class NumberTest(unittest.TestCase):
    def test_range(self):
        for p in (2, 97, GREATEST):
            self.assertIs(is_number(0, p), True)
            self.assertIs(is_number(p - 1, p), True)
            self.assertIs(is_number(p, p), False)
            self.assertIs(is_number(-1, p), False)
            self.assertIs(is_number(10 ** 30, p), False)

    def test_lists(self):
        self.assertTrue(are_numbers([0, 6, 3], 3, 7))
        self.assertTrue(are_numbers([], 0, 7))
        for thing in ([0, 6], [0, 6, 3, 1], [0, 7, 3], [0, -1, 3], [0, True, 3], [0, "1", 3], (0, 6, 3), None, 5, "063"):
            self.assertFalse(are_numbers(thing, 3, 7), thing)


if __name__ == "__main__":
    unittest.main()
