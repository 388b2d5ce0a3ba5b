"""Polynomials: lists of integers, the coefficients of x ** 0, x ** 1 and so on, without a 0 at the end."""

from itertools import zip_longest
from math import gcd


def trimmed(numbers):
    """Return the numbers without the zeros at their end."""
    end = len(numbers)
    while end > 0 and numbers[end - 1] == 0:
        end -= 1
    return numbers[:end]


def plus(first, second):
    """Return the sum of two polynomials."""
    return trimmed([one + other for one, other in zip_longest(first, second, fillvalue=0)])


def minus(first, second):
    """Return the first polynomial less the second one."""
    return trimmed([one - other for one, other in zip_longest(first, second, fillvalue=0)])


def times(first, second):
    """Return the product of two polynomials."""
    if not first or not second:
        return []
    numbers = [0] * (len(first) + len(second) - 1)
    for at, one in enumerate(first):
        for behind, other in enumerate(second):
            numbers[at + behind] += one * other
    return numbers


def quotient(first, second):
    """Return the first polynomial divided by the second one, which must divide it with nothing left."""
    rest = list(first)
    numbers = [0] * (len(first) - len(second) + 1)
    for at in reversed(range(len(numbers))):
        numbers[at] = rest[at + len(second) - 1] // second[-1]
        for behind, number in enumerate(second):
            rest[at + behind] -= numbers[at] * number
    return numbers


def share(whole, divisor):
    """Return a polynomial divided by another one, None if that leaves something or makes fractions."""
    found = quotient(whole, divisor)
    # the quotient drops what is left, so only the product tells whether there is anything
    return found if times(found, divisor) == whole else None


def primitive(numbers):
    """Return the polynomial without its integer factor, its first number that is not 0 made positive."""
    factor = 0
    for number in numbers:
        factor = gcd(factor, number)
    # the sign is settled here, so that what begins with 1 or -1 comes out beginning with 1
    found = [number for number in numbers if number != 0]
    if found and found[0] < 0:
        factor = -factor
    return [number // factor for number in numbers]


def _remainder(first, second):
    """Return what is left of some integer multiple of the first polynomial behind division by the second one."""
    rest = first
    while len(rest) >= len(second):
        common = gcd(rest[-1], second[-1])
        raised = times(rest, [second[-1] // common])
        taken = times([0] * (len(rest) - len(second)) + [rest[-1] // common], second)
        rest = minus(raised, taken)
    return rest


def common_factor(first, second):
    """Return the primitive greatest common factor of two polynomials, of which at least one is not 0."""
    greater, less = primitive(first), primitive(second)
    while less:
        # without the integer factors the numbers would grow with each step
        greater, less = less, primitive(_remainder(greater, less))
    return greater


def common_multiple(first, second):
    """Return the least common multiple, beginning with 1, of two polynomials that begin with 1."""
    return times(first, quotient(second, common_factor(first, second)))
