"""Whether what one single 1 starts ends, repeats, or grows, and how."""

from math import lcm

from feedcolumns.polynomials import quotient, share


def growth_of(form):
    """Return how the powers of a form end, repeat or grow."""
    top, bottom = form
    if not top:
        return ("ends", None)
    if bottom == [1]:
        return ("ends", len(top) - 1)
    found, rest = _divided(bottom)
    if rest != [1]:
        return ("beyond",)
    most = max([count for number, count in found])
    if most > 1:
        return ("power", most - 1)
    return ("repeats", max(0, len(top) - len(bottom) + 1), _common_period(found))


def circles(form):
    """Return how often the bottom can be divided by the polynomial of the primitive N-th roots of 1, for each N."""
    top, bottom = form
    found, rest = _divided(bottom)
    return found


def rest_of(form):
    """Return what is left of the bottom behind all divisions by polynomials of roots of 1."""
    top, bottom = form
    found, rest = _divided(bottom)
    return rest


def _common_period(found):
    period = 1
    for number, count in found:
        period = lcm(period, number)
    return period


def _divided(bottom):
    """Return the ascending list of (N, times), and what is left behind these divisions."""
    found = []
    rest = list(bottom)
    for number, divisor in _root_polynomials(len(bottom) - 1):
        count = 0
        left = share(rest, divisor)
        while left is not None:
            count += 1
            rest = left
            left = share(rest, divisor)
        if count > 0:
            found.append((number, count))
    return found, rest


def _root_polynomials(degree):
    """Return the ascending tuples of N and the polynomial, beginning with 1, of the primitive N-th roots of 1.

    They are those of at most a degree, and N = 1.
    """
    found = [(1, [1, -1])]
    for prime in range(2, degree + 2):
        if _is_prime(prime):
            more = []
            for number, known in found:
                more.extend(_with_prime(number, known, prime, degree))
            found = found + more
    return sorted(found, key=lambda pair: pair[0])


def _is_prime(number):
    return all([number % part != 0 for part in range(2, number)])


def _with_prime(number, known, prime, degree):
    """Return such tuples for a number times the powers of a prime that does not divide it."""
    if (len(known) - 1) * (prime - 1) > degree:
        return []
    found = []
    power = prime
    # the roots whose prime-th powers are known: the primitive ones, and, the first time, the known ones again
    raised = quotient(_spread(known, prime), known)
    while len(raised) - 1 <= degree:
        found.append((number * power, raised))
        power = power * prime
        raised = _spread(raised, prime)
    return found


def _spread(numbers, step):
    """Return a polynomial with a power of x in the place of x."""
    spread = [0] * (step * (len(numbers) - 1) + 1)
    for at, number in enumerate(numbers):
        spread[step * at] = number
    return spread
