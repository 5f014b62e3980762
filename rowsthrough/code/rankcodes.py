"""Rank codes."""

from rowsthrough.base.fields import are_words, minus, need_field, need_number
from rowsthrough.base.matrices import are_so_many_words, rank_of, unpacked_rows
from rowsthrough.base.reckoning import kernel_rows, number_power, packed_all, summed, unpacked_all
from rowsthrough.code.linear import polynomial_at, raised_all, values_of, zero_polynomial
from rowsthrough.code.polynomials import need_polynomial
from rowsthrough.errors import InvalidCode, InvalidOperation, InvalidWord

MOST_PLACES = 6
MOST_WORDS = 20
MOST_MOORE_ROWS = 20


def are_places(field, value):
    """Whether the value is a tuple of one to six words, independent over the base."""
    if not isinstance(value, tuple) or not 1 <= len(value) <= MOST_PLACES:
        return False
    return are_words(field, value) and rank_of(field, value) == len(value)


def need_places(field, points):
    """Raise InvalidCode unless these are points of a rank code."""
    if not are_places(field, points):
        raise InvalidCode("not one to six independent words")


def need_words(field, words):
    """Raise InvalidWord unless these are at most 20 words."""
    if not are_words(field, words) or len(words) > MOST_WORDS:
        raise InvalidWord("not at most 20 words of the field")


def need_as_many(words, points):
    """Raise InvalidOperation unless there are as many words as points."""
    if len(words) != len(points):
        raise InvalidOperation("not as many words as points")


def need_code(field, points, size):
    """Raise the first error unless these are a field, points and a size of a rank code."""
    need_field(field)
    need_places(field, points)
    need_number(size, 1, len(points))


def moore_rows(field, numbers, size):
    """Moore's matrix of packed words."""
    return [raised_all(field, numbers, turns) for turns in range(size)]


def moore(field, words, size):
    """The rows of Moore's matrix of the words."""
    need_field(field)
    need_words(field, words)
    need_number(size, 1, MOST_MOORE_ROWS)
    return unpacked_rows(field, moore_rows(field, packed_all(words), size))


def are_independent(field, words):
    """Whether the words are independent over the base."""
    need_field(field)
    need_words(field, words)
    return rank_of(field, words) == len(words)


def codeword(field, points, polynomial):
    """The values of the polynomial at the points."""
    need_field(field)
    need_places(field, points)
    need_polynomial(field, polynomial)
    if len(polynomial) > len(points):
        raise InvalidOperation("more coefficients than points")
    return unpacked_all(field, values_of(field, packed_all(polynomial), packed_all(points)))


def is_codeword(field, points, size, value):
    """Whether the value is a codeword."""
    need_code(field, points, size)
    if not are_so_many_words(field, len(points), value):
        return False
    return len(polynomial_at(field, packed_all(points), packed_all(value))) <= size


def polynomial_through(field, points, words):
    """The polynomial with at most n coefficients that leads the points to the words."""
    need_field(field)
    need_places(field, points)
    need_words(field, words)
    need_as_many(words, points)
    return unpacked_all(field, polynomial_at(field, packed_all(points), packed_all(words)))


def rank_distance(field, one, other):
    """The rank over the base of the differences of the words."""
    need_field(field)
    need_words(field, one)
    need_words(field, other)
    need_as_many(one, other)
    return rank_of(field, tuple([minus(field, left, right) for left, right in zip(one, other)]))


def nearest_pair(field, points, size):
    """Two codewords with the least distance."""
    need_code(field, points, size)
    numbers = packed_all(points)
    # The values of this one are zero at all sums of size - 1 points, and at nothing else.
    polynomial = zero_polynomial(field, numbers[:size - 1])
    return (field.zero,) * len(points), unpacked_all(field, values_of(field, polynomial, numbers))


def check_points(field, points, size):
    """Check points for the rank code."""
    need_code(field, points, size)
    many = len(points)
    if size == many:
        return points
    numbers = kernel_rows(field, moore_rows(field, packed_all(points), many - 1))[0]
    return unpacked_all(field, raised_all(field, numbers, size + 1 - many))


def is_check_points(field, points, size, value):
    """Whether the value is check points for the rank code."""
    need_code(field, points, size)
    many = len(points)
    if not are_places(field, value) or len(value) != many:
        return False
    # Rows of independent check points bar as many dimensions as there are more than codewords have.
    checks = moore_rows(field, packed_all(value), many - size)
    begun = moore_rows(field, packed_all(points), size)
    return not any([summed(field, check, row) for check in checks for row in begun])


def syndromes(field, checks, size, words):
    """The syndromes of the words."""
    need_code(field, checks, size)
    need_words(field, words)
    need_as_many(words, checks)
    numbers = packed_all(words)
    rows = moore_rows(field, packed_all(checks), len(checks) - size)
    return unpacked_all(field, [summed(field, row, numbers) for row in rows])


def subspaces(q, whole, part):
    """How many subspaces of a dimension a space over the base has."""
    above, below = 1, 1
    for place in range(part):
        above = above * (number_power(q, whole - place) - 1)
        below = below * (number_power(q, place + 1) - 1)
    return above // below


def rank_counts(field, many, size):
    """How many codewords of so many points have each rank."""
    need_field(field)
    need_number(many, 1, field.m)
    need_number(size, 1, many)
    least = many - size + 1
    found = [1]
    for rank in range(1, many + 1):
        found.append(rank_count(field, many, least, rank) if rank >= least else 0)
    return tuple(found)


def rank_count(field, many, least, rank):
    """How many codewords have the rank, from the least distance on."""
    q = field.q
    total = 0
    for left in range(rank - least + 1):
        sign = -1 if left & 1 else 1
        power = number_power(q, left * (left - 1) // 2)
        further = number_power(q, field.m * (rank - least + 1 - left)) - 1
        total = total + sign * power * subspaces(q, rank, left) * further
    return subspaces(q, many, rank) * total
