"""Matrices of base numbers and of words."""

from rowsthrough.base.fields import Field, are_words, need_base, need_field
from rowsthrough.base.reckoning import are_digits, columns_of, kernel_rows, packed_all, reduced, row_products
from rowsthrough.base.reckoning import solution_numbers, summed, undoing_rows, unpacked_all
from rowsthrough.errors import InvalidMatrix, InvalidOperation, InvalidWord

MOST_SIZE = 60


def are_rows(value):
    """Whether the value is a tuple of at most 60 equally long tuples of at most 60 values."""
    if not isinstance(value, tuple) or len(value) > MOST_SIZE:
        return False
    if not all([isinstance(row, tuple) for row in value]):
        return False
    return all([len(row) == len(value[0]) and len(row) <= MOST_SIZE for row in value])


def are_base_rows(q, value):
    """Whether the value is base rows."""
    return are_rows(value) and all([are_digits(q, len(row), row) for row in value])


def are_word_rows(field, value):
    """Whether the value is word rows."""
    return are_rows(value) and all([are_words(field, row) for row in value])


def are_so_many_words(field, many, value):
    """Whether the value is a tuple of so many words."""
    return isinstance(value, tuple) and len(value) == many and are_words(field, value)


def is_told(value, kind):
    """Whether the value is a pair of this kind and of something else."""
    return isinstance(value, tuple) and len(value) == 2 and value[0] == kind


def need_base_rows(q, rows):
    """Raise InvalidMatrix unless these are base rows."""
    if not are_base_rows(q, rows):
        raise InvalidMatrix("no base rows")


def need_word_rows(field, rows):
    """Raise InvalidMatrix unless these are word rows."""
    if not are_word_rows(field, rows):
        raise InvalidMatrix("no word rows")


def need_base_sides(q, rows, side):
    """Raise the first error unless these are a base, base rows and a side for them."""
    need_base(q)
    need_base_rows(q, rows)
    if not are_digits(q, len(rows), side):
        raise InvalidMatrix("no base number for each row")


def need_word_sides(field, rows, side):
    """Raise the first error unless these are a field, word rows and a side for them."""
    need_field(field)
    need_word_rows(field, rows)
    if not are_so_many_words(field, len(rows), side):
        raise InvalidMatrix("no word for each row")


def need_fitting(one, other):
    """Raise InvalidOperation unless the first rows are as long as the second ones are many."""
    if columns_of(one) != len(other):
        raise InvalidOperation("the rows of the first are not as long as the second ones are many")


def need_square(field, rows):
    """Raise the first error unless these are a field and square word rows."""
    need_field(field)
    need_word_rows(field, rows)
    if columns_of(rows) != len(rows):
        raise InvalidOperation("not as many rows as columns")


def packed_rows(rows):
    """The list of the rows of packed words."""
    return [packed_all(row) for row in rows]


def unpacked_rows(field, rows):
    """The tuple of the rows of words that are packed."""
    return tuple([unpacked_all(field, row) for row in rows])


def plain_rows(rows):
    """The rows as a tuple of tuples."""
    return tuple([tuple(row) for row in rows])


def digits_field(q):
    """The field of degree 1: a base number is a packed word of it."""
    return Field(q, 1)


def answer_numbers(field, rows, side, many):
    """The pair of the kind and of the numbers for rows of so many packed words and their side."""
    found = solution_numbers(field, rows, side, many)
    if found is not None:
        return "solution", found
    # A bar solves the columns, as rows, with the sides zero, and with the side itself one.
    turned = [list(column) for column in zip(*rows)]
    turned.append(side)
    return "barred", solution_numbers(field, turned, [0] * many + [1], len(rows))


def is_solution(field, rows, side, numbers):
    """Whether the packed words solve the rows."""
    return [summed(field, row, numbers) for row in rows] == list(side)


def is_bar(field, rows, side, numbers):
    """Whether the packed words bar the rows."""
    sums = [summed(field, column, numbers) for column in zip(*rows)]
    return not any(sums) and summed(field, side, numbers) == 1


def base_rank(q, rows):
    """The rank of the base rows."""
    need_base(q)
    need_base_rows(q, rows)
    return len(reduced(digits_field(q), rows))


def echelon(q, rows):
    """The echelon of the base rows."""
    need_base(q)
    need_base_rows(q, rows)
    return plain_rows([pair[1] for pair in reduced(digits_field(q), rows)])


def kernel(q, rows):
    """The kernel of the base rows."""
    need_base(q)
    need_base_rows(q, rows)
    return plain_rows(kernel_rows(digits_field(q), rows))


def solved(q, rows, side):
    """Any solution of the base rows with the side, or any bar."""
    need_base_sides(q, rows, side)
    kind, numbers = answer_numbers(digits_field(q), rows, side, columns_of(rows))
    return kind, tuple(numbers)


def is_solved(q, rows, side, value):
    """Whether the value is a solution, or a bar."""
    need_base_sides(q, rows, side)
    field = digits_field(q)
    if is_told(value, "solution") and are_digits(q, columns_of(rows), value[1]):
        return is_solution(field, rows, side, value[1])
    if is_told(value, "barred") and are_digits(q, len(rows), value[1]):
        return is_bar(field, rows, side, value[1])
    return False


def base_product(q, one, other):
    """The product of the base rows."""
    need_base(q)
    need_base_rows(q, one)
    need_base_rows(q, other)
    need_fitting(one, other)
    return plain_rows(row_products(digits_field(q), one, other))


def product(field, one, other):
    """The product of the word rows."""
    need_field(field)
    need_word_rows(field, one)
    need_word_rows(field, other)
    need_fitting(one, other)
    return unpacked_rows(field, row_products(field, packed_rows(one), packed_rows(other)))


def word_rank(field, rows):
    """The rank of the word rows."""
    need_field(field)
    need_word_rows(field, rows)
    return len(reduced(field, packed_rows(rows)))


def word_echelon(field, rows):
    """The echelon of the word rows."""
    need_field(field)
    need_word_rows(field, rows)
    return unpacked_rows(field, [pair[1] for pair in reduced(field, packed_rows(rows))])


def word_kernel(field, rows):
    """The kernel of the word rows."""
    need_field(field)
    need_word_rows(field, rows)
    return unpacked_rows(field, kernel_rows(field, packed_rows(rows)))


def word_solved(field, rows, side):
    """Any solution of the word rows with the side, or any bar."""
    need_word_sides(field, rows, side)
    kind, numbers = answer_numbers(field, packed_rows(rows), packed_all(side), columns_of(rows))
    return kind, unpacked_all(field, numbers)


def is_word_solved(field, rows, side, value):
    """Whether the value is a solution, or a bar."""
    need_word_sides(field, rows, side)
    if is_told(value, "solution") and are_so_many_words(field, columns_of(rows), value[1]):
        return is_solution(field, packed_rows(rows), packed_all(side), packed_all(value[1]))
    if is_told(value, "barred") and are_so_many_words(field, len(rows), value[1]):
        return is_bar(field, packed_rows(rows), packed_all(side), packed_all(value[1]))
    return False


def inverted(field, rows):
    """The inverse of the square word rows, or any lost words."""
    need_square(field, rows)
    numbers = packed_rows(rows)
    found = undoing_rows(field, numbers)
    if found is not None:
        return "inverse", unpacked_rows(field, found)
    return "lost", unpacked_all(field, kernel_rows(field, numbers)[0])


def is_inverted(field, rows, value):
    """Whether the value is the inverse rows, or lost words."""
    need_square(field, rows)
    many = len(rows)
    if is_told(value, "inverse") and are_word_rows(field, value[1]):
        if len(value[1]) != many or columns_of(value[1]) != many:
            return False
        # What undoes square rows from one side does so from the other one, too.
        return is_unit(row_products(field, packed_rows(value[1]), packed_rows(rows)))
    if is_told(value, "lost") and are_so_many_words(field, many, value[1]):
        numbers = packed_all(value[1])
        return any(numbers) and not any([summed(field, row, numbers) for row in packed_rows(rows)])
    return False


def is_unit(rows):
    """Whether these are the rows of packed words with ones from the first place to the last one."""
    places = range(len(rows))
    return rows == [[1 if row == column else 0 for column in places] for row in places]


def rank_of(field, words):
    """The rank of the words over the base."""
    need_field(field)
    if not are_words(field, words) or len(words) > MOST_SIZE:
        raise InvalidWord("not at most 60 words of the field")
    return len(reduced(digits_field(field.q), words))
