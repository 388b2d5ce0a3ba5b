import random
import unittest
from fractions import Fraction

from feedcolumns.errors import InvalidNumber
from feedcolumns.forms import column_form
from feedcolumns.joins import behind, beside, led_back, loop_for, multiple, stepped
from feedcolumns.sheets import Sheet
from helpers import Case, convolved, formula_with, great_form, powers_of, product, random_form

ROWS = 90
GREAT = 10 ** 30
NONE = ([], [1])
ONE = ([1], [1])
SUM = ([1], [1, -1])
PAIRS = ([1], [1, -1, -1])


def added(first, second):
    return [one + other for one, other in zip(first, second)]


def negative(form):
    return [-number for number in form[0]], form[1]


def some_forms(chance):
    """Pairs of forms: with common factors, with the same bottom, and a form and its own negative one."""
    for _ in range(120):
        form = random_form(chance)
        yield form, random_form(chance)
        yield form, form
        yield form, negative(form)
        yield form, NONE
        yield ([7, 0, 1], form[1]), form
    yield great_form(chance), great_form(chance)
    form = great_form(chance)
    yield form, ([5] + form[0][1:], form[1])


class PairTest(Case):
    def test_behind(self):
        for first, second in some_forms(random.Random(71)):
            with self.subTest(first=first, second=second):
                powers = convolved(powers_of(first, ROWS), powers_of(second, ROWS), ROWS)
                self.check_form(behind(first, second), powers)
                self.check_form(behind(second, first), powers)

    def test_beside(self):
        for first, second in some_forms(random.Random(72)):
            with self.subTest(first=first, second=second):
                powers = added(powers_of(first, ROWS), powers_of(second, ROWS))
                self.check_form(beside(first, second), powers)
                self.check_form(beside(second, first), powers)

    def test_common_factors(self):
        self.assertEqual(behind(SUM, ([1, -1], [1])), ONE)
        self.assertEqual(behind(([1, -1], [1]), SUM), ONE)
        self.assertEqual(behind(([1, 0, -1], [1, 2]), ([1, 2], [1, -2, 1])), ([1, 1], [1, -1]))
        self.assertEqual(behind(([2], [1, 1]), ([-3, -3], [1])), ([-6], [1]))
        self.assertEqual(beside(SUM, ([1], [1, 1])), ([2], [1, 0, -1]))
        self.assertEqual(beside(([1], [1, 0, -1]), ([0, 1], [1, 0, -1])), SUM)
        self.assertEqual(beside(SUM, ([0, -1], [1, -1])), ONE)
        self.assertEqual(beside(([1], [1, -2, 1]), SUM), ([2, -1], [1, -2, 1]))

    def test_a_form_and_its_own_negative_one(self):
        for form in [ONE, SUM, PAIRS, ([0, 0, 4], [1, 5]), ([3], [1, -2, 1]), NONE]:
            self.assertEqual(beside(form, negative(form)), NONE)
            self.assertEqual(beside(form, form), multiple(form, 2))
            self.assertEqual(beside(form, multiple(form, -1)), NONE)

    def test_the_form_0(self):
        for form in [ONE, SUM, PAIRS, NONE, ([0, 0, 4], [1, 5])]:
            self.assertEqual(behind(form, NONE), NONE)
            self.assertEqual(behind(NONE, form), NONE)
            self.assertEqual(beside(form, NONE), form)
            self.assertEqual(beside(NONE, form), form)

    def test_multiples(self):
        chance = random.Random(73)
        for form in [random_form(chance) for _ in range(60)] + [NONE, ONE, great_form(chance)]:
            for number in [0, 1, -1, 2, -6, GREAT, -GREAT]:
                with self.subTest(form=form, number=number):
                    self.check_form(multiple(form, number), [number * power for power in powers_of(form, ROWS)])
        self.assertEqual(multiple(PAIRS, 0), NONE)
        self.assertEqual(multiple(([1, 2], [1, 3]), -2), ([-2, -4], [1, 3]))

    def test_by_name(self):
        self.assertEqual(behind(second=([0, 1], [1]), first=PAIRS), ([0, 1], [1, -1, -1]))
        self.assertEqual(beside(second=([0, 1], [1]), first=ONE), ([1, 1], [1]))
        self.assertEqual(multiple(number=3, form=PAIRS), ([3], [1, -1, -1]))

    def test_columns_of_a_sheet_that_are_put_together(self):
        chance = random.Random(74)
        for _ in range(80):
            first, second, number = random_form(chance, 2), random_form(chance, 2), chance.choice([-3, 1, 4])
            sheet = Sheet("a", [
                ("f", formula_with("f", "a", first)), ("s", formula_with("s", "a", second)),
                ("b", formula_with("b", "f", second)), ("w", [(1, "f", 0), (1, "s", 0)]), ("m", [(number, "f", 0)])])
            with self.subTest(first=first, second=second):
                self.assertEqual(column_form(sheet, "f", "a"), first)
                self.assertEqual(column_form(sheet, "b", "a"), behind(first, second))
                self.assertEqual(column_form(sheet, "w", "a"), beside(first, second))
                self.assertEqual(column_form(sheet, "m", "a"), multiple(first, number))

    def test_new_lists(self):
        for first, second in [(SUM, PAIRS), (ONE, ([1, 1], [1])), (NONE, SUM), (NONE, NONE), (SUM, negative(SUM))]:
            self.check_new(behind, first, second)
            self.check_new(beside, first, second)
            self.check_new(lambda form: behind(form, form), second)
            self.check_new(lambda form: beside(form, form), second)
            for number in [0, 1, -2]:
                self.check_new(multiple, second, number)


class LedBackTest(Case):
    def led(self, form, back, number):
        """The cells behind a single 1, added to the input so many rows later, by a walk of the ring cell by cell."""
        powers = powers_of(form, number)
        fed, cells = [], []
        for row in range(number):
            fed.append(int(row == 0) + (cells[row - back] if 1 <= back <= row else 0))
            cells.append(sum(powers[k] * fed[row - k] for k in range(row + 1) if back > 0 or k > 0))
            if back == 0:
                # the first power is 0, so the cell does not need its own input
                fed[row] += cells[row]
        return cells

    def test_against_a_walk(self):
        chance = random.Random(75)
        for form in [random_form(chance) for _ in range(60)] + [NONE, ONE, SUM, PAIRS, ([0, 1], [1])]:
            for back in [0, 1, 2, 5, 40]:
                with self.subTest(form=form, back=back):
                    if back == 0 and form[0] and form[0][0] != 0:
                        self.raises(InvalidNumber, 0, led_back, form, back)
                    else:
                        self.check_form(led_back(form, back), self.led(form, back, 2 * ROWS))

    def test_back_0(self):
        self.assertEqual(led_back(([0, 1], [1]), 0), ([0, 1], [1, -1]))
        self.assertEqual(led_back(([0, 0, 3], [1, 1]), 0), ([0, 0, 3], [1, 1, -3]))
        self.assertEqual(led_back(NONE, 0), NONE)
        for form in [ONE, SUM, ([-1, 5], [1]), ([GREAT], [1, 3])]:
            self.raises(InvalidNumber, 0, led_back, form, 0)
            self.raises(InvalidNumber, 0, led_back, back=0, form=form)

    def test_backs(self):
        self.assertEqual(led_back(ONE, 1), SUM)
        self.assertEqual(led_back(([-1], [1]), 2), ([-1], [1, 0, 1]))
        self.assertEqual(led_back(ONE, 40), ([1], [1] + [0] * 39 + [-1]))
        self.assertEqual(led_back(([1, -1], [1]), 40), ([1, -1], [1] + [0] * 39 + [-1, 1]))
        self.assertEqual(led_back(([1], [1, 1]), 1), ONE)
        self.assertEqual(led_back(back=1, form=([1], [1, 0, -1])), PAIRS)
        self.assertEqual(led_back(NONE, 3), NONE)

    def test_negative_backs(self):
        for form in [ONE, SUM, NONE, ([0, 1], [1])]:
            for back in [-1, -2, -40, -GREAT]:
                self.raises(InvalidNumber, back, led_back, form, back)
                self.raises(InvalidNumber, back, led_back, back=back, form=form)

    def test_great_numbers(self):
        form = great_form(random.Random(76))
        for back in [1, 40]:
            self.check_form(led_back(form, back), self.led(form, back, 2 * ROWS))

    def test_rings_of_a_sheet(self):
        chance = random.Random(77)
        for _ in range(60):
            form, back = random_form(chance), chance.choice([0, 1, 3])
            if back == 0 and form[0] and form[0][0] != 0:
                continue
            sheet = Sheet("a", [("f", formula_with("f", "i", form)), ("i", [(1, "a", 0), (1, "f", back)])])
            with self.subTest(form=form, back=back):
                self.assertEqual(column_form(sheet, "f", "a"), led_back(form, back))

    def test_new_lists(self):
        for form in [ONE, SUM, NONE, ([0, 1], [1])]:
            for back in [1, 40]:
                self.check_new(led_back, form, back)
        self.check_new(led_back, ([0, 1], [1]), 0)


class LoopTest(Case):
    def series(self, form, wish, number):
        """The first numbers of the only series that can be the loop, (wish - form) / (wish * form), or None."""
        powers, wished = powers_of(form, number), powers_of(wish, number)
        above = [one - other for one, other in zip(wished, powers)]
        below = convolved(wished, powers, number)
        late = next(row for row in range(number) if below[row] != 0)
        if any(above[:late]):
            return None
        above, below = above[late:], below[late:]
        rest, found = [Fraction(part) for part in above], []
        for row in range(len(rest)):
            found.append(rest[row] / below[0])
            if found[-1].denominator != 1 or (row == 0 and found[0] * powers[0] != 0):
                return None
            for k in range(row, len(rest)):
                rest[k] -= found[-1] * below[k - row]
        return [int(part) for part in found]

    def check(self, form, wish):
        loop = loop_for(form, wish)
        series = self.series(form, wish, ROWS) if form[0] and wish[0] else None
        if series is None:
            self.assertIsNone(loop)
            return False
        self.check_form(loop, series)
        # the wish is the form behind what the loop adds to its input
        led = convolved(series, powers_of(wish, ROWS), 60)
        fed = added([1] + [0] * 59, led)
        self.assertEqual(convolved(powers_of(form, ROWS), fed, 60), powers_of(wish, 60))
        return True

    def test_wishes_that_a_loop_makes(self):
        chance = random.Random(78)
        made = 0
        while made < 80:
            form, loop = random_form(chance, 2), random_form(chance, 2)
            if not form[0] or (powers_of(form, 1) != [0] and powers_of(loop, 1) != [0]):
                continue
            made += 1
            ring = behind(form, loop)
            wish = behind(form, led_back(ring, 0))
            wish = beside(form, wish)
            with self.subTest(form=form, loop=loop):
                self.assertIs(self.check(form, wish), True)
                self.assertEqual(loop_for(form, wish), loop)

    def test_any_wishes(self):
        chance = random.Random(79)
        found = {}
        for _ in range(400):
            form, wish = random_form(chance, 2), random_form(chance, 2)
            with self.subTest(form=form, wish=wish):
                found[self.check(form, wish)] = True
        self.assertEqual(sorted(found), [False, True])

    def test_examples(self):
        self.assertEqual(loop_for(SUM, ([1, 1], [1])), ([0, 0, -1], [1, 1]))
        self.assertEqual(loop_for(ONE, PAIRS), ([0, 1, 1], [1]))
        self.assertEqual(loop_for(wish=([0, 1], [1, -1]), form=([0, 1], [1])), ONE)
        # with a power 0 in row 0 the loop may have another one there, but no row less
        self.assertEqual(loop_for(([0, 1], [1]), ([0, 1], [1, -4])), ([4], [1]))
        self.assertIsNone(loop_for(([0, 1], [1]), ([0, 2], [1])))
        self.assertIsNone(loop_for(([0, 1], [1]), ([0, 0, 1], [1])))

    def test_a_product_that_would_not_begin_with_0(self):
        # 1 / form - 1 / wish is the form 2, but it would have to add to its own row
        self.assertIsNone(loop_for(ONE, ([-1], [1])))
        self.assertIsNone(loop_for(([1], [1, 1]), ([-1], [1, -1])))
        self.assertIs(self.check(ONE, ([-1], [1])), False)
        for form in [ONE, SUM, PAIRS]:
            self.assertIsNone(loop_for(form, negative(form)))

    def test_numbers_that_are_no_integers(self):
        self.assertIsNone(loop_for(([2], [1]), ([2, 1], [1])))
        self.assertIsNone(loop_for(([3], [1, -1]), ([3], [1, 1])))
        self.assertEqual(loop_for(([3], [1, -1]), ([3], [1, 2])), ([0, -1], [1]))

    def test_the_form_0_as_either(self):
        for form in [ONE, SUM, NONE, ([0, 1], [1])]:
            self.assertIsNone(loop_for(form, NONE))
            self.assertIsNone(loop_for(NONE, form))

    def test_a_form_and_itself(self):
        chance = random.Random(80)
        for form in [ONE, SUM, PAIRS, ([0, 0, -3], [1, 1]), great_form(chance)]:
            self.assertEqual(loop_for(form, form), NONE)

    def test_great_numbers(self):
        chance = random.Random(81)
        form = great_form(chance, 9)
        wish = led_back(form, 3)
        self.assertEqual(loop_for(form, wish), ([0, 0, 0, 1], [1]))
        self.assertIsNone(loop_for(form, great_form(chance)))

    def test_new_lists(self):
        for form, wish in [(SUM, ([1, 1], [1])), (ONE, ONE), (ONE, NONE), (ONE, negative(ONE))]:
            self.check_new(loop_for, form, wish)


class SteppedTest(Case):
    def check(self, form, step, begin):
        powers = powers_of(form, begin + step * 50)
        self.check_form(stepped(form, step, begin), powers[begin::step])

    def test_against_the_powers(self):
        chance = random.Random(82)
        forms = [random_form(chance) for _ in range(25)]
        for form in forms + [NONE, ONE, SUM, PAIRS, ([1, 2, 3, 4, 5], [1]), ([0, 0, 0, 4, 0, 1], [1, 0, 0, 2])]:
            for step in range(1, 7):
                for begin in [0, 1, 2, 3, 4, 5, 6, 7, 13, 40]:
                    with self.subTest(form=form, step=step, begin=begin):
                        self.check(form, step, begin)

    def test_somewhat_beyond_the_bounds(self):
        for step, begin in [(7, 0), (8, 61), (12, 5)]:
            self.check(PAIRS, step, begin)
            self.check(([3, 0, 1], [1, 1, 0, 0, -1]), step, begin)

    def test_great_numbers(self):
        form = great_form(random.Random(83))
        for step, begin in [(1, 40), (2, 3), (5, 17), (6, 0), (6, 40)]:
            self.check(form, step, begin)

    def test_examples(self):
        self.assertEqual(stepped(PAIRS, 2, 0), ([1, -1], [1, -3, 1]))
        self.assertEqual(stepped(PAIRS, 2, 1), ([1], [1, -3, 1]))
        self.assertEqual(stepped(begin=3, step=4, form=SUM), SUM)
        self.assertEqual(stepped(([1], [1, 1]), 2, 1), ([-1], [1, -1]))

    def test_behind_the_end_of_the_top(self):
        top = [3, 1, 4, 1, 5]
        for step in range(1, 7):
            self.assertEqual(stepped((top, [1]), step, 4), ([5], [1]))
            for begin in [5, 6, 40]:
                self.assertEqual(stepped((top, [1]), step, begin), NONE)
                self.assertEqual(stepped((top + [-5], [1, -1]), step, begin), ([9], [1, -1]))

    def test_rows_that_are_all_0(self):
        for begin in [1, 2, 4]:
            self.assertEqual(stepped(([1], [1, 0, 0, -2]), 3, begin), NONE)
        self.assertEqual(stepped(([1], [1, 0, 0, -2]), 3, 0), ([1], [1, -2]))

    def test_steps_below_1(self):
        for form in [SUM, NONE]:
            for step in [0, -1, -6, -GREAT]:
                # ahead of a begin below 0
                for begin in [0, 3, -1, -GREAT]:
                    self.raises(InvalidNumber, step, stepped, form, step, begin)
                    self.raises(InvalidNumber, step, stepped, begin=begin, step=step, form=form)

    def test_begins_below_0(self):
        for form in [SUM, NONE]:
            for step in [1, 2, 6]:
                for begin in [-1, -2, -6, -7, -GREAT]:
                    self.raises(InvalidNumber, begin, stepped, form, step, begin)

    def test_new_lists(self):
        for form in [SUM, PAIRS, NONE, ([1, 2, 3], [1])]:
            for step, begin in [(1, 0), (2, 0), (3, 7)]:
                self.check_new(stepped, form, step, begin)


class BoundsTest(Case):
    def test_products_of_long_polynomials(self):
        chance = random.Random(84)
        (top, bottom), (other_top, other_bottom) = great_form(chance), great_form(chance)
        self.assertEqual(behind((top, bottom), (other_top, other_bottom)),
                         (product(top, other_top), product(bottom, other_bottom)))


if __name__ == "__main__":
    unittest.main()
