import copy
import itertools
import math
import random
import unittest

from feedcolumns.forms import column_form, first_powers
from feedcolumns.growth import circles, growth_of, rest_of
from feedcolumns.sheets import Sheet
from helpers import Case, common_degree, product, root_polynomial

# those N that have at most 16 primitive N-th roots of 1
NUMBERS = [number for number in range(1, 200)
           if sum(math.gcd(part, number) == 1 for part in range(1, number + 1)) <= 16]
ROOTS = {number: root_polynomial(number) for number in NUMBERS}
# each has roots on the circle that are no roots of 1, and one that is less than 1
ON_THE_CIRCLE = [[1, -1, -1, -1, 1], [1, -2, 1, -2, 1], [1, 0, -1, -1, -1, 0, 1],
                 [1, 1, 0, -1, -1, -1, -1, -1, 0, 1, 1]]
OTHERS = [[1, -1, -1], [1, 2], [1, -3], [1, 0, 0, 0, 2], [1, 1, 3], [1, -1, 0, 1], [1] + [9] * 4, [1, 10 ** 30]]


def bottom_of(found):
    """The product of the polynomials of the primitive N-th roots of 1, each so many times."""
    bottom = [1]
    for number, count in found:
        for _ in range(count):
            bottom = product(bottom, ROOTS[number])
    return bottom


def tops(chance, bottom, lengths):
    """Some tops without a common factor with the bottom, one for each length."""
    for length in lengths:
        while True:
            top = [chance.randint(-5, 5) for _ in range(length - 1)] + [chance.choice([-7, -1, 1, 2])]
            if common_degree(top, bottom) == 0:
                yield top
                break


def random_roots(chance, most_degree, most_count):
    """Some (N, times) the product of which has at most this degree."""
    found = {}
    degree = 0
    for number in chance.sample(NUMBERS, 12):
        for _ in range(chance.randint(1, most_count)):
            if degree + len(ROOTS[number]) - 1 <= most_degree and len(found) < 4:
                found[number] = found.get(number, 0) + 1
                degree += len(ROOTS[number]) - 1
    return sorted(found.items())


class CirclesTest(Case):
    def check(self, found, rest):
        bottom = product(bottom_of(found), rest)
        for top in [[1], [0, 0, 3]]:
            with self.subTest(found=found, rest=rest):
                self.assertEqual(circles((top, bottom)), found)
                self.assertEqual(rest_of((top, bottom)), rest)

    def test_polynomials_of_the_tests(self):
        self.assertEqual([ROOTS[number] for number in [1, 2, 3, 4, 6, 12]],
                         [[1, -1], [1, 1], [1, 1, 1], [1, 0, 1], [1, -1, 1], [1, 0, -1, 0, 1]])
        self.assertEqual(NUMBERS[-4:], [40, 42, 48, 60])

    def test_each_number_alone(self):
        for number in NUMBERS:
            for count in range(1, 1 + 16 // (len(ROOTS[number]) - 1)):
                self.check([(number, count)], [1])

    def test_pairs_of_numbers(self):
        for one, other in itertools.combinations(NUMBERS[:20], 2):
            self.check([(one, 1), (other, 2)], [1])

    def test_several_numbers_several_times_and_a_rest(self):
        chance = random.Random(51)
        for _ in range(150):
            found = random_roots(chance, 16, 3)
            self.check(found, [1])
            self.check(found, chance.choice(OTHERS + ON_THE_CIRCLE))

    def test_all_roots_of_one_number(self):
        for number in range(1, 17):
            found = [(part, 1) for part in range(1, number + 1) if number % part == 0]
            self.assertEqual(circles(([1], [1] + [0] * (number - 1) + [-1])), found)
            self.assertEqual(rest_of(([1], [1] + [0] * (number - 1) + [-1])), [1])

    def test_great_numbers(self):
        for number in [17, 34, 40, 48, 60]:
            self.check([(number, 1)], [1])
        # somewhat beyond the bounds
        for number in [41, 77, 90, 120]:
            bottom = root_polynomial(number)
            self.assertEqual(circles(([1], bottom)), [(number, 1)])
            self.assertEqual(circles(([1], product(bottom, bottom))), [(number, 2)])
            self.assertEqual(rest_of(([1], product(bottom, [1, -1, -1]))), [1, -1, -1])
        self.check([(1, 5), (2, 9), (60, 1)], [1, 10 ** 30, 10 ** 30])

    def test_no_roots_of_1(self):
        for bottom in [[1]] + OTHERS + ON_THE_CIRCLE:
            self.check([], bottom)
        for one, other in itertools.combinations(OTHERS + ON_THE_CIRCLE, 2):
            self.check([], product(one, other))

    def test_the_form_0(self):
        self.assertEqual(circles(([], [1])), [])
        self.assertEqual(rest_of(([], [1])), [1])

    def test_by_name(self):
        self.assertEqual(circles(form=([1], [1, -2, 0, 1])), [(1, 1)])
        self.assertEqual(rest_of(form=([1], [1, -2, 0, 1])), [1, -1, -1])

    def test_new_lists_and_what_is_passed_stays(self):
        for bottom in [[1], [1, -1], [1, -1, -1], [1, -2, 0, 1]]:
            form = ([1, 0, 3], bottom)
            before = copy.deepcopy(form)
            for call in [circles, rest_of]:
                told = copy.deepcopy(call(form))
                self.assertIs(type(call(form)), list)
                call(form).append(7)
                self.assertEqual(form, before)
                call(form).clear()
                self.assertEqual(form, before)
                self.assertEqual(call(form), told)
            growth_of(form)
            self.assertEqual(form, before)
        self.assertTrue(all(type(pair) is tuple for pair in circles(([1], [1, 0, -1]))))


class GrowthTest(Case):
    def least_repeating(self, powers, most):
        """The least row and the least period of the repetition, by the powers."""
        for period in range(1, most + 1):
            row = len(powers) - period
            while row > 0 and powers[row - 1] == powers[row - 1 + period]:
                row -= 1
            if row < len(powers) // 2 - most:
                return "repeats", row, period
        return None

    def test_ends(self):
        for top, row in [([1], 0), ([0, 0, 5], 2), ([1, 0, 0, -1], 3), ([0] * 16 + [10 ** 30], 16), ([-3, 1], 1)]:
            self.assertEqual(growth_of((top, [1])), ("ends", row))
            powers = first_powers((top, [1]), 40)
            self.assertEqual(max(at for at, power in enumerate(powers) if power != 0), row)

    def test_the_form_0(self):
        self.assertEqual(growth_of(([], [1])), ("ends", None))
        self.assertEqual(growth_of(form=column_form(Sheet("a", [("z", [(1, "z", 1)])]), "z", "a")), ("ends", None))

    def test_repeats(self):
        for form, told in [
                (([1], [1, -1]), ("repeats", 0, 1)), (([0, 1], [1, -1]), ("repeats", 1, 1)),
                (([5, 0, 1], [1, 1]), ("repeats", 2, 2)), (([1, 5], [1, 0, 1]), ("repeats", 0, 4)),
                (([1, 5], [1, 1, 1]), ("repeats", 0, 3)), (([1, 0, 2], [1, 1, 1]), ("repeats", 1, 3)),
                (([1], [1, 1, 2, 1, 1]), ("repeats", 0, 12)), (([1], root_polynomial(60)), ("repeats", 0, 60)),
                (([1], product(ROOTS[4], ROOTS[6])), ("repeats", 0, 12)),
                (([1], product(ROOTS[7], ROOTS[11])), ("repeats", 0, 77))]:
            with self.subTest(form=form):
                self.assertEqual(growth_of(form), told)

    def test_repeats_against_the_powers(self):
        chance = random.Random(52)
        tried = 0
        while tried < 120:
            found = random_roots(chance, 16, 1)
            most = math.lcm(*[number for number, _ in found])
            if most > 200:
                continue
            tried += 1
            bottom = bottom_of(found)
            for top in tops(chance, bottom, [1, len(bottom) - 1, len(bottom), len(bottom) + 1, 17]):
                with self.subTest(top=top, found=found):
                    powers = first_powers((top, bottom), 4 * most + 60)
                    self.assertEqual(growth_of((top, bottom)), self.least_repeating(powers, most))

    def test_powers(self):
        for form, degree in [(([1], [1, -2, 1]), 1), (([1, 0, 0, 0, 9], [1, 2, 1]), 1), (([3], [1, -3, 3, -1]), 2),
                             (([1], [1, 0, 2, 0, 1]), 1), (([1], [1, -1, -1, 1]), 1), (([1], [1, 0, -3, 0, 3, 0, -1]), 2),
                             (([0, 0, 7], bottom_of([(1, 16)])), 15), (([1], bottom_of([(60, 2)])), 1)]:
            with self.subTest(form=form):
                self.assertEqual(growth_of(form), ("power", degree))

    def test_powers_against_the_differences_of_powers(self):
        chance = random.Random(53)
        tried = 0
        while tried < 80:
            found = random_roots(chance, 16, 4)
            period = math.lcm(*[number for number, _ in found])
            degree = max(count for _, count in found) - 1
            if degree == 0 or period > 120:
                continue
            tried += 1
            bottom = bottom_of(found)
            for top in tops(chance, bottom, [1, len(bottom), 17]):
                with self.subTest(top=top, found=found):
                    self.assertEqual(growth_of((top, bottom)), ("power", degree))
                    # in steps of the period the powers are polynomials of the row: of this degree, not of less
                    powers = first_powers((top, bottom), (degree + 2) * period + 60)[20:]
                    for _ in range(degree):
                        powers = [later - power for power, later in zip(powers, powers[period:])]
                    self.assertTrue(any(powers))
                    self.assertEqual(powers[period:], powers[:-period])

    def test_beyond(self):
        for bottom in OTHERS + ON_THE_CIRCLE:
            for found in [[], [(1, 1)], [(2, 3)], [(1, 2), (6, 1)]]:
                for top in [[5], [0, 0, 0, -5], [5] + [0] * 15 + [25]]:
                    form = (top, product(bottom, bottom_of(found)))
                    with self.subTest(form=form):
                        self.assertEqual(growth_of(form), ("beyond",))

    def test_roots_on_the_circle_that_are_no_roots_of_1(self):
        for bottom in ON_THE_CIRCLE:
            # the same backwards, so its roots come in pairs with the product 1; two of them are on
            # the circle: there it is, turned back half its degree, a real number that changes its sign
            self.assertEqual(bottom, bottom[::-1])
            half = len(bottom) // 2
            values = [bottom[half] + 2 * sum(bottom[half + k] * math.cos(k * turn / 100) for k in range(1, half + 1))
                      for turn in range(315)]
            self.assertTrue(any(one * other < 0 for one, other in zip(values, values[1:])))
            self.assertEqual((circles(([1], bottom)), rest_of(([1], bottom))), ([], bottom))
            powers = first_powers(([1], bottom), 400)
            self.assertGreater(max(abs(power) for power in powers), 10 ** 12)

    def test_kinds_of_values(self):
        for form in [([], [1]), ([1], [1]), ([1], [1, -1]), ([1], [1, -2, 1]), ([1], [1, -2])]:
            self.assertIs(type(growth_of(form)), tuple)

    def test_forms_of_columns(self):
        sheet = Sheet("a", [("s", [(1, "s", 1), (1, "a", 0)]), ("t", [(1, "t", 1), (1, "s", 0)]),
                            ("d", [(1, "t", 0), (-1, "t", 2)]), ("p", [(1, "p", 1), (1, "p", 2), (1, "a", 3)])])
        self.assertEqual([growth_of(column_form(sheet, name, "a")) for name in "stdp"],
                         [("repeats", 0, 1), ("power", 1), ("repeats", 1, 1), ("beyond",)])


if __name__ == "__main__":
    unittest.main()
