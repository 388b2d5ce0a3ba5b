import random
import unittest

from feedcolumns.polynomials import (
    common_factor, common_multiple, minus, plus, primitive, quotient, share, times, trimmed)
from helpers import common_degree, product


def random_polynomial(chance, most):
    numbers = [chance.randint(-5, 5) for _ in range(chance.randint(0, most))]
    return numbers + [chance.choice([-4, -1, 1, 3])]


class PolynomialsTest(unittest.TestCase):
    def test_no_zeros_at_the_end(self):
        self.assertEqual(trimmed([1, 0, 2, 0, 0]), [1, 0, 2])
        self.assertEqual(trimmed([0, 0]), [])
        self.assertEqual(plus([1, 2], [3, -2]), [4])
        self.assertEqual(plus([1, 2], [0, 0, 5]), [1, 2, 5])
        self.assertEqual(minus([1, 2], [1, 2]), [])
        self.assertEqual(minus([], [1, 2]), [-1, -2])

    def test_products(self):
        self.assertEqual(times([1, 2], [3, 0, 4]), [3, 6, 4, 8])
        for nothing in [([], [1, 2]), ([1, 2], []), ([], [])]:
            self.assertEqual(times(*nothing), [])

    def test_quotients(self):
        chance = random.Random(20)
        for _ in range(100):
            first, second = random_polynomial(chance, 6), random_polynomial(chance, 6)
            self.assertEqual(times(first, second), product(first, second))
            self.assertEqual(quotient(times(first, second), second), first)
        self.assertEqual(quotient([], [1, 2]), [])

    def test_shares(self):
        chance = random.Random(23)
        for _ in range(100):
            first, second = random_polynomial(chance, 6), random_polynomial(chance, 6)
            whole = times(first, second)
            self.assertEqual(share(whole, second), first)
            if len(second) > 1 and second[0] != 0:
                for place in range(len(whole)):
                    self.assertIsNone(share(plus(whole, [0] * place + [1]), second))
        self.assertEqual(share([], [1, 2]), [])
        self.assertIsNone(share([1], [1, 2]))
        self.assertIsNone(share([1, 2], [2, 4]))

    def test_primitive(self):
        self.assertEqual(primitive([]), [])
        self.assertEqual(primitive([4, -6]), [2, -3])
        self.assertEqual(primitive([-1, 2]), [1, -2])
        self.assertEqual(primitive([0, -3, 3]), [0, 1, -1])
        self.assertEqual(primitive([1, -2]), [1, -2])
        self.assertEqual(primitive([-2]), [1])

    def test_common_factor(self):
        self.assertEqual(common_factor([-4, 6], []), [2, -3])
        self.assertEqual(common_factor([], [-4, 6]), [2, -3])
        self.assertEqual(common_factor([6], [4]), [1])
        chance = random.Random(21)
        for _ in range(100):
            first, second, third = [random_polynomial(chance, 4) for _ in range(3)]
            common = common_factor(times(first, third), times(second, third))
            self.assertEqual(primitive(common), common)
            self.assertEqual(len(common) - 1, common_degree(times(first, third), times(second, third)))
            for one in [first, second]:
                whole = times(one, third)
                self.assertEqual(times(quotient(whole, common), common), whole)

    def test_common_multiple(self):
        self.assertEqual(common_multiple([1, -1], [1, 0, -1]), [1, 0, -1])
        self.assertEqual(common_multiple([1, -1], [1, 1]), [1, 0, -1])
        chance = random.Random(22)
        for _ in range(100):
            first, second, third = [[1] + random_polynomial(chance, 3) for _ in range(3)]
            one, other = times(first, third), times(second, third)
            common = common_multiple(one, other)
            self.assertEqual(common[0], 1)
            self.assertEqual(len(common), len(one) + len(other) - 1 - common_degree(one, other))
            for part in [one, other]:
                self.assertEqual(times(quotient(common, part), part), common)

    def test_arguments_are_unchanged(self):
        first, second = [2, 4, 2], [1, 1]
        for call in [plus, minus, times, quotient, share, common_factor]:
            call(first, second)
        self.assertEqual((primitive(first), trimmed(first)), ([1, 2, 1], [2, 4, 2]))
        self.assertEqual((first, second), ([2, 4, 2], [1, 1]))


if __name__ == "__main__":
    unittest.main()
