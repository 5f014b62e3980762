"""Words of fields."""

from rowsthrough.base.reckoning import WIDTH, are_digits, has_no_divisor, inverted_number, is_from, is_whole
from rowsthrough.base.reckoning import least_free, less, number_inverses, number_power, packed, packed_all, powered
from rowsthrough.base.reckoning import powers_of_x, raised_by, settled, tidied, unpacked
from rowsthrough.errors import InvalidField, InvalidNumber, InvalidOperation, InvalidWord

PRIMES = (2, 3, 5, 7, 11, 13)
MOST_DEGREE = 6
MOST_TURNS = 60


def is_base(value):
    """Whether the value is a base."""
    return is_whole(value) and value in PRIMES


def are_words(field, value):
    """Whether the value is a tuple of words of the field."""
    if not isinstance(value, tuple):
        return False
    return all([are_digits(field.q, field.m, word) for word in value])


def need_base(q):
    """Raise InvalidNumber unless this is a base."""
    if not is_base(q):
        raise InvalidNumber(q)


def need_number(number, low, high):
    """Raise InvalidNumber unless this is an integer from `low` to `high`."""
    if not is_from(number, low, high):
        raise InvalidNumber(number)


def need_field(field):
    """Raise InvalidField unless this is a field."""
    if not isinstance(field, Field):
        raise InvalidField("no field")


def need_word(field, word):
    """Raise InvalidWord unless this is a word of the field."""
    if not are_digits(field.q, field.m, word):
        raise InvalidWord("no word of the field")


def need_two_words(field, one, other):
    """Raise InvalidField or InvalidWord unless these are a field and two words of it."""
    need_field(field)
    need_word(field, one)
    need_word(field, other)


def is_free(q, lower):
    """Whether the monic polynomial with the lower numbers is free."""
    need_base(q)
    if not isinstance(lower, tuple) or not 1 <= len(lower) <= MOST_DEGREE:
        raise InvalidOperation("not one to six lower numbers")
    if not are_digits(q, len(lower), lower):
        raise InvalidOperation("no base numbers")
    return has_no_divisor(q, lower)


class Field:
    """The field with base q and degree m.

    Besides what the document lists it keeps what `rowsthrough.base.reckoning` needs: `places`, how many
    bits up the digits of packed words stand; `full`, the packed word with q for each digit; `folds`, the
    packed words for x ** m to x ** (2 m - 2); `turned`, those for 1, x, .., x ** (m - 1), raised;
    `inverses`, those of the base numbers.
    """

    def __init__(self, q, m):
        if not is_base(q) or not is_from(m, 1, MOST_DEGREE):
            raise InvalidField("no base and degree")
        self.q = q
        self.m = m
        self.size = number_power(q, m)
        self.polynomial = least_free(q, m)
        self.zero = (0,) * m
        self.one = (1,) + (0,) * (m - 1)
        self.places = tuple([WIDTH * place for place in range(m)])
        self.full = packed((q,) * m)
        powers = packed_all(powers_of_x(q, self.polynomial, q * m))
        self.folds = tuple(powers[m:2 * m - 1])
        self.turned = tuple(powers[::q])
        self.inverses = number_inverses(q)

    def __eq__(self, other):
        return isinstance(other, Field) and self.q == other.q and self.m == other.m

    def __str__(self):
        return f"field of {self.q} to the power {self.m}"


def is_word(field, value):
    """Whether the value is a word of the field."""
    need_field(field)
    return are_digits(field.q, field.m, value)


def word_of(field, number):
    """The word with the number."""
    need_field(field)
    need_number(number, 0, field.size - 1)
    digits = []
    left = number
    for _ in range(field.m):
        digits.append(left % field.q)
        left = left // field.q
    return tuple(digits)


def number_of(field, word):
    """The number of the word."""
    need_field(field)
    need_word(field, word)
    number = 0
    for digit in reversed(word):
        number = number * field.q + digit
    return number


def plus(field, one, other):
    """The sum of the words."""
    need_two_words(field, one, other)
    return unpacked(field, tidied(field, packed(one) + packed(other)))


def minus(field, one, other):
    """The one word less the other."""
    need_two_words(field, one, other)
    return unpacked(field, less(field, packed(one), packed(other)))


def times(field, one, other):
    """The product of the words."""
    need_two_words(field, one, other)
    return unpacked(field, settled(field, packed(one) * packed(other)))


def inverse(field, word):
    """The inverse of the word."""
    need_field(field)
    need_word(field, word)
    if word == field.zero:
        raise InvalidOperation("nought has no inverse")
    return unpacked(field, inverted_number(field, packed(word)))


def power(field, word, number):
    """The word to the power of the number."""
    need_field(field)
    need_word(field, word)
    if not is_whole(number) or number < 0:
        raise InvalidNumber(number)
    return unpacked(field, powered(field, packed(word), number))


def raised(field, word, turns):
    """The word, raised so many times."""
    need_field(field)
    need_word(field, word)
    need_number(turns, 0, MOST_TURNS)
    return unpacked(field, raised_by(field, packed(word), turns))


def scaled(field, number, word):
    """The base number times the word."""
    need_field(field)
    need_number(number, 0, field.q - 1)
    need_word(field, word)
    return unpacked(field, tidied(field, number * packed(word)))
