"""Decoding by ranks."""

from rowsthrough.base.fields import are_words, need_field, need_number
from rowsthrough.base.matrices import are_so_many_words, are_word_rows, digits_field, is_told, is_unit, packed_rows
from rowsthrough.base.matrices import rank_of, unpacked_rows
from rowsthrough.base.reckoning import columns_of, kernel_rows, less, packed, packed_all, raised_by, reduced
from rowsthrough.base.reckoning import row_products, tidied, trimmed, undoing_rows, unpacked_all
from rowsthrough.code.linear import left_parts, values_of, zero_polynomial
from rowsthrough.code.polynomials import are_coefficients
from rowsthrough.errors import InvalidCode, InvalidOperation, InvalidWord

MOST_POINTS = 20
MOST_SIZE = 6
MOST_WRONG = 6


class Question:
    """Which polynomials are near: all words are packed here, and polynomials are lists of packed words."""

    def __init__(self, field, points, size, received, most):
        self.field = field
        self.points = packed_all(points)
        self.size = size
        self.received = packed_all(received)
        self.most = most

    def wrong_rank(self, polynomial):
        """The rank over the base of what is wrong if the polynomial was sent."""
        values = values_of(self.field, polynomial, self.points)
        wrong = [less(self.field, number, value) for number, value in zip(self.received, values)]
        return rank_of(self.field, unpacked_all(self.field, wrong))

    def is_near(self, polynomial):
        """Whether the polynomial is near."""
        return len(polynomial) <= self.size and self.wrong_rank(polynomial) <= self.most

    def asked_rows(self):
        """The matrix of what helpers ask."""
        return [self.asked_row(number, point) for number, point in zip(self.received, self.points)]

    def asked_row(self, number, point):
        """The row of one received word and its point."""
        row = [raised_by(self.field, number, turns) for turns in range(self.most + 1)]
        for turns in range(self.most + self.size):
            row.append(less(self.field, 0, raised_by(self.field, point, turns)))
        return row

    def found_helpers(self):
        """Any pair of helpers, None if there are none."""
        found = kernel_rows(self.field, self.asked_rows())
        if not found:
            return None
        return trimmed(found[0][:self.most + 1]), trimmed(found[0][self.most + 1:])

    def are_helpers(self, first, second):
        """Whether the two polynomials are helpers."""
        if len(first) > self.most + 1 or len(second) > self.most + self.size or not (first or second):
            return False
        return values_of(self.field, first, self.received) == values_of(self.field, second, self.points)

    def told_by(self, first, second):
        """The near polynomial f with second = first after f for helpers, None if there is none.

        To be asked only if at most one polynomial can be near: `first` is not nought then, as `second`
        alone would be zero at all points, and has too few coefficients for that.
        """
        found, rest = left_parts(self.field, second, first)
        return found if not rest and self.is_near(found) else None


def need_points(field, points):
    """Raise InvalidCode unless these are one to twenty words."""
    if not are_words(field, points) or not 1 <= len(points) <= MOST_POINTS:
        raise InvalidCode("not one to twenty words of the field")


def is_single(field, points, size, most):
    """Whether for all received words at most one polynomial is near."""
    return 2 * most <= rank_of(field, points) - size


def asked(field, points, size, received, most):
    """The question: the first error unless the arguments ask one."""
    need_field(field)
    need_points(field, points)
    need_number(size, 1, MOST_SIZE)
    if not are_so_many_words(field, len(points), received):
        raise InvalidWord("no received word for each point")
    need_number(most, 0, MOST_WRONG)
    return Question(field, points, size, received, most)


def asked_for_one(field, points, size, received, most):
    """The question: InvalidOperation if several polynomials can be near."""
    question = asked(field, points, size, received, most)
    if not is_single(field, points, size, most):
        raise InvalidOperation("several polynomials can be near")
    return question


def decoded(field, points, size, received, most):
    """The near polynomial and the rank of what is wrong, or that there is none."""
    question = asked_for_one(field, points, size, received, most)
    pair = question.found_helpers()
    # Whatever helpers there are, they tell the near polynomial, if one is near.
    found = question.told_by(pair[0], pair[1]) if pair is not None else None
    if found is None:
        return ("none",)
    return "found", unpacked_all(field, found), question.wrong_rank(found)


def near_answer(field, points, size, received, most):
    """A near polynomial, or what shows that there is none."""
    question = asked_for_one(field, points, size, received, most)
    pair = question.found_helpers()
    if pair is None:
        return "apart", unpacked_rows(field, undoing_rows(field, question.asked_rows()))
    found = question.told_by(pair[0], pair[1])
    if found is None:
        return "far", unpacked_all(field, pair[0]), unpacked_all(field, pair[1])
    return "near", unpacked_all(field, found)


def is_near_answer(field, points, size, received, most, value):
    """Whether the value is a near polynomial, or shows that there is none."""
    question = asked_for_one(field, points, size, received, most)
    if is_told(value, "near"):
        return are_coefficients(field, value[1]) and question.is_near(packed_all(value[1]))
    if is_told(value, "apart"):
        return is_undoing(question, value[1])
    if not isinstance(value, tuple) or len(value) != 3 or value[0] != "far":
        return False
    if not are_helping(question, value[1:]):
        return False
    return question.told_by(packed_all(value[1]), packed_all(value[2])) is None


def is_undoing(question, value):
    """Whether the value is rows that undo the matrix of what helpers ask."""
    rows = question.asked_rows()
    if not are_word_rows(question.field, value) or len(value) != columns_of(rows) or columns_of(value) != len(rows):
        return False
    return is_unit(row_products(question.field, packed_rows(value), rows))


def are_helping(question, value):
    """Whether the value is a pair of helpers."""
    if not isinstance(value, tuple) or len(value) != 2:
        return False
    if not all([are_coefficients(question.field, polynomial) for polynomial in value]):
        return False
    return question.are_helpers(packed_all(value[0]), packed_all(value[1]))


def helpers(field, points, size, received, most):
    """Any helpers, None if there are none."""
    pair = asked(field, points, size, received, most).found_helpers()
    if pair is None:
        return None
    return unpacked_all(field, pair[0]), unpacked_all(field, pair[1])


def is_helpers(field, points, size, received, most, value):
    """Whether the value is helpers."""
    question = asked(field, points, size, received, most)
    return are_helping(question, value)


def unique_most(field, points, size):
    """The greatest rank of what is wrong for which at most one polynomial is near; None if there is none."""
    need_field(field)
    need_points(field, points)
    need_number(size, 1, MOST_SIZE)
    left = rank_of(field, points) - size
    return left // 2 if left >= 0 else None


def need_several(field, points, size, most):
    """Raise the first error unless these are points, a size and the most that is wrong."""
    need_field(field)
    need_points(field, points)
    need_number(size, 1, MOST_SIZE)
    need_number(most, 0, MOST_WRONG)


def two_near(field, points, size, most):
    """Received words, and two unlike polynomials that are both near."""
    need_several(field, points, size, most)
    if is_single(field, points, size, most):
        raise InvalidOperation("at most one polynomial is near")
    # Zero at so many points, the polynomial has values of a rank of at most 2 most: one half is sent
    # to the received words, the other half is what is wrong if the polynomial was sent.
    begun = packed_all(independent_ones(field, points)[:size - 1])
    polynomial = zero_polynomial(field, begun)
    values = unpacked_all(field, values_of(field, polynomial, packed_all(points)))
    return first_share(field, values, most), (), unpacked_all(field, polynomial)


def independent_ones(field, points):
    """Some of the points that are independent over the base, as many as can be."""
    found = []
    for point in points:
        if rank_of(field, (*found, point)) > len(found):
            found.append(point)
    return found


def first_share(field, words, many):
    """What the first rows, at most so many, of the echelon of the words' digits add to each word."""
    pairs = reduced(digits_field(field.q), words)[:many]
    shares = []
    for word in words:
        shares.append(tidied(field, sum([word[lead] * packed(row) for lead, row in pairs])))
    return unpacked_all(field, shares)


def is_two_near(field, points, size, most, value):
    """Whether the value is received words and two unlike polynomials that are both near."""
    need_several(field, points, size, most)
    if not isinstance(value, tuple) or len(value) != 3:
        return False
    received, one, other = value
    if not are_so_many_words(field, len(points), received):
        return False
    if not are_coefficients(field, one) or not are_coefficients(field, other) or one == other:
        return False
    question = Question(field, points, size, received, most)
    return question.is_near(packed_all(one)) and question.is_near(packed_all(other))
