"""Linearised polynomials."""

from rowsthrough.base.fields import are_words, need_field, need_word
from rowsthrough.base.matrices import are_base_rows, kernel
from rowsthrough.base.reckoning import columns_of, packed, packed_all, unpacked, unpacked_all
from rowsthrough.code.linear import behind, joined_of, left_parts, polynomial_at, right_parts, shared_of, sum_of
from rowsthrough.code.linear import unit_numbers, value_of, value_rows, zero_polynomial
from rowsthrough.errors import InvalidMatrix, InvalidOperation, InvalidPolynomial, InvalidWord, TooMany

MOST_COEFFICIENTS = 20


def are_coefficients(field, value):
    """Whether the value is a polynomial."""
    if not isinstance(value, tuple) or len(value) > MOST_COEFFICIENTS or not are_words(field, value):
        return False
    return not value or value[-1] != field.zero


def need_polynomial(field, polynomial):
    """Raise InvalidPolynomial unless this is a polynomial over the field."""
    if not are_coefficients(field, polynomial):
        raise InvalidPolynomial("no polynomial over the field")


def need_two_polynomials(field, one, other):
    """Raise the first error unless these are a field and two polynomials over it."""
    need_field(field)
    need_polynomial(field, one)
    need_polynomial(field, other)


def need_divisor(other):
    """Raise InvalidOperation for nought."""
    if not other:
        raise InvalidOperation("nought divides nothing")


def told_polynomial(field, numbers):
    """The polynomial with the packed coefficients: TooMany for more of them than a polynomial has."""
    if len(numbers) > MOST_COEFFICIENTS:
        raise TooMany(MOST_COEFFICIENTS)
    return unpacked_all(field, numbers)


def is_polynomial(field, value):
    """Whether the value is a polynomial over the field."""
    need_field(field)
    return are_coefficients(field, value)


def value_at(field, polynomial, word):
    """The value of the polynomial at the word."""
    need_field(field)
    need_polynomial(field, polynomial)
    need_word(field, word)
    return unpacked(field, value_of(field, packed_all(polynomial), packed(word)))


def poly_sum(field, one, other):
    """The sum of the polynomials."""
    need_two_polynomials(field, one, other)
    return told_polynomial(field, sum_of(field, packed_all(one), packed_all(other)))


def poly_product(field, one, other):
    """The product: the one polynomial behind the other."""
    need_two_polynomials(field, one, other)
    return told_polynomial(field, behind(field, packed_all(one), packed_all(other)))


def right_divided(field, one, other):
    """The pair (a, rest) with one = a other + rest."""
    need_two_polynomials(field, one, other)
    need_divisor(other)
    part, rest = right_parts(field, packed_all(one), packed_all(other))
    return told_polynomial(field, part), told_polynomial(field, rest)


def left_divided(field, one, other):
    """The pair (a, rest) with one = other a + rest."""
    need_two_polynomials(field, one, other)
    need_divisor(other)
    part, rest = left_parts(field, packed_all(one), packed_all(other))
    return told_polynomial(field, part), told_polynomial(field, rest)


def roots(field, polynomial):
    """The roots, told by independent words in echelon form."""
    rows = matrix_of(field, polynomial)
    # The digits of a root are multiples of these rows that add up to zero.
    return kernel(field.q, tuple(zip(*rows)))


def zero_on(field, words):
    """The zero polynomial on the words."""
    need_field(field)
    if not are_words(field, words):
        raise InvalidWord("no tuple of words of the field")
    return told_polynomial(field, zero_polynomial(field, packed_all(words)))


def right_shared(field, one, other):
    """The greatest common right divisor."""
    need_two_polynomials(field, one, other)
    return told_polynomial(field, shared_of(field, packed_all(one), packed_all(other)))


def left_joined(field, one, other):
    """The least common left multiple."""
    need_two_polynomials(field, one, other)
    return told_polynomial(field, joined_of(field, packed_all(one), packed_all(other)))


def matrix_of(field, polynomial):
    """The rows of the digits of the values at 1, x, .., x ** (m - 1)."""
    need_field(field)
    need_polynomial(field, polynomial)
    return unpacked_all(field, value_rows(field, packed_all(polynomial)))


def polynomial_of(field, matrix):
    """The polynomial with at most m coefficients whose values at 1, x, .., x ** (m - 1) have these digits."""
    need_field(field)
    if not are_base_rows(field.q, matrix) or len(matrix) != field.m or columns_of(matrix) != field.m:
        raise InvalidMatrix("not m rows of m base numbers")
    return told_polynomial(field, polynomial_at(field, unit_numbers(field), packed_all(matrix)))
