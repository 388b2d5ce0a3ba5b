"""What comes of columns that are put one behind another, added, led back, or taken in every so manieth row."""

from feedcolumns.errors import InvalidForm, InvalidNumber
from feedcolumns.forms import first_powers, last_unknown, reduced
from feedcolumns.polynomials import minus, plus, times, trimmed


def behind(first, second):
    """Return the form of a column with the second form that is fed with a column with the first one."""
    top, bottom = first
    other_top, other_bottom = second
    return reduced(times(top, other_top), times(bottom, other_bottom))


def beside(first, second):
    """Return the form of the sum of two columns."""
    top, bottom = first
    other_top, other_bottom = second
    return reduced(plus(times(top, other_bottom), times(other_top, bottom)), times(bottom, other_bottom))


def multiple(form, number):
    """Return the form of a multiple of a column."""
    top, bottom = form
    return reduced(trimmed(times(top, [number])), bottom)


def led_back(form, back):
    """Return the form of a column whose cells are added to its own input so many rows later."""
    if back < 0 or (back == 0 and first_powers(form, 1) != [0]):
        raise InvalidNumber(back)
    top, bottom = form
    return reduced(top, minus(bottom, [0] * back + top))


def loop_for(form, wish):
    """Return the form that, fed with a column and added to its input, makes of it a wanted one, None if none does."""
    top, bottom = form
    wish_top, wish_bottom = wish
    if not top or not wish_top:
        return None
    # wish = form / (1 - loop * form), so the loop is 1 / form - 1 / wish
    try:
        loop = reduced(minus(times(bottom, wish_top), times(wish_bottom, top)), times(top, wish_top))
    except InvalidForm:
        return None
    if first_powers(behind(loop, form), 1) != [0]:
        return None
    return loop


def stepped(form, step, begin):
    """Return the form whose powers are those in the rows begin, begin + step and so on."""
    if step < 1:
        raise InvalidNumber(step)
    if begin < 0:
        raise InvalidNumber(begin)
    return _begun(_section(form, step, begin % step), begin // step)


def _section(form, step, first):
    """Return the form whose powers are those in the rows first, first + step and so on, first being less than step."""
    # the sections of the powers are unknowns: each section of the top is a sum of products of
    # theirs with those of the bottom
    sections = [section for section in range(step) if section != first] + [first]
    top, bottom = last_unknown([_equation(form, step, row, sections) for row in sections])
    return reduced(top, bottom)


def _equation(form, step, row, sections):
    top, bottom = form
    parts = []
    for section in sections:
        # where both sections add up to more than the row, it is that of one step later
        late = [0] if section > row else []
        parts.append(trimmed(late + bottom[(row - section) % step::step]))
    return parts + [trimmed(top[row::step])]


def _begun(form, begin):
    """Return the form whose powers are those from a row on."""
    top, bottom = form
    return reduced(minus(top, times(bottom, first_powers(form, begin)))[begin:], bottom)
