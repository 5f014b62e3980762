"""Helpers: linearised polynomials as lists of packed coefficients, the last one not zero."""

from rowsthrough.base.reckoning import inverted_number, less, raised_by, settled, summed, tidied, trimmed


def widened(numbers, many):
    """The list of the numbers, with zeros behind them."""
    return list(numbers) + [0] * (many - len(numbers))


def sum_of(field, one, other):
    """The sum of the polynomials."""
    many = max(len(one), len(other))
    wide, further = widened(one, many), widened(other, many)
    return trimmed([tidied(field, left + right) for left, right in zip(wide, further)])


def difference_of(field, one, other):
    """The one polynomial less the other."""
    many = max(len(one), len(other))
    wide, further = widened(one, many), widened(other, many)
    return trimmed([less(field, left, right) for left, right in zip(wide, further)])


def multiple_of(field, factor, numbers):
    """The packed words, each times the packed factor."""
    return [settled(field, factor * number) for number in numbers]


def raised_all(field, numbers, turns):
    """The packed words, each raised so many times."""
    return [raised_by(field, number, turns) for number in numbers]


def value_of(field, polynomial, number):
    """The value at the packed word."""
    powers = []
    for _ in polynomial:
        powers.append(number)
        number = raised_by(field, number, 1)
    return summed(field, polynomial, powers)


def values_of(field, polynomial, numbers):
    """The values at the packed words."""
    return [value_of(field, polynomial, number) for number in numbers]


def behind(field, one, other):
    """The product: the one polynomial behind the other."""
    if not one or not other:
        return []
    totals = [0] * (len(one) + len(other) - 1)
    turned = other
    for place, factor in enumerate(one):
        for further, number in enumerate(turned):
            totals[place + further] = totals[place + further] + factor * number
        turned = raised_all(field, turned, 1)
    return [settled(field, total) for total in totals]


def right_parts(field, one, other):
    """The pair (a, rest) with one = a behind other, and the rest."""
    found, rest = [], one
    below = inverted_number(field, other[-1])
    while len(rest) >= len(other):
        turns = len(rest) - len(other)
        factor = settled(field, rest[-1] * raised_by(field, below, turns))
        step = [0] * turns + [factor]
        found = sum_of(field, found, step)
        rest = difference_of(field, rest, behind(field, step, other))
    return found, rest


def left_parts(field, one, other):
    """The pair (a, rest) with one = other behind a, and the rest."""
    found, rest = [], one
    below = inverted_number(field, other[-1])
    while len(rest) >= len(other):
        turns = len(rest) - len(other)
        # The last coefficient of the other one meets that of `a` raised; so it is raised back here.
        factor = raised_by(field, settled(field, rest[-1] * below), 1 - len(other))
        step = [0] * turns + [factor]
        found = sum_of(field, found, step)
        rest = difference_of(field, rest, behind(field, other, step))
    return found, rest


def monic(field, polynomial):
    """The polynomial times the word that makes its last coefficient 1."""
    if not polynomial:
        return []
    return multiple_of(field, inverted_number(field, polynomial[-1]), polynomial)


def shared_of(field, one, other):
    """The greatest common right divisor with the last coefficient 1."""
    while other:
        one, other = other, right_parts(field, one, other)[1]
    return monic(field, one)


def joined_of(field, one, other):
    """The least common left multiple with the last coefficient 1; [] if one of both is nought."""
    rest, left = one, other
    # Each rest is some polynomial behind `one` and some behind `other`: here are those behind `one`.
    before, now = [1], []
    while left:
        part, further = right_parts(field, rest, left)
        before, now = now, difference_of(field, before, behind(field, part, now))
        rest, left = left, further
    return monic(field, behind(field, now, one))


def with_root(field, polynomial, value):
    """The polynomial that is zero, too, where the value of this one is some multiple of the value."""
    # x ** q - c x is zero at the value, and at just its multiples, for this c.
    factor = settled(field, raised_by(field, value, 1) * inverted_number(field, value))
    return behind(field, [less(field, 0, factor), 1], polynomial)


def zero_polynomial(field, numbers):
    """The zero polynomial on the packed words."""
    found = [1]
    for number in numbers:
        value = value_of(field, found, number)
        if value:
            found = with_root(field, found, value)
    return found


def polynomial_at(field, points, wanted):
    """The polynomial with at most as many coefficients as points that leads independent points to the wanted words."""
    found, zero = [], [1]
    for point, number in zip(points, wanted):
        value = value_of(field, zero, point)
        missing = less(field, number, value_of(field, found, point))
        factor = settled(field, missing * inverted_number(field, value))
        # What is zero at all points ahead changes nothing there.
        found = sum_of(field, found, multiple_of(field, factor, zero))
        zero = with_root(field, zero, value)
    return found


def value_rows(field, polynomial):
    """The values at 1, x, .., x ** (m - 1)."""
    return values_of(field, polynomial, unit_numbers(field))


def unit_numbers(field):
    """The packed words 1, x, .., x ** (m - 1)."""
    return [1 << place for place in field.places]
