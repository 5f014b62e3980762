"""Stage 2: matrices."""

import random
import unittest

from rowsthrough import errors
from rowsthrough.base import fields, matrices
from rowsthrough.base.fields import Field
from rowsthrough.base.matrices import (
    MOST_SIZE, base_product, base_rank, echelon, inverted, is_inverted, is_solved, is_word_solved, kernel, product,
    rank_of, solved, word_echelon, word_kernel, word_rank, word_solved,
)
from tests.helper import (
    Own, OwnPolynomials, check_judge, check_parameters, junk, lifted_rows, lowered_rows, own_rank, pairs_of,
    random_rows, random_word_rows, random_words, run_examples, spoiled, told, tuples, without,
)

EXAMPLES = """
>>> [base_rank(3, ((1, 2), (2, 1))), echelon(3, ((0, 2, 1), (1, 1, 1), (1, 0, 2))), kernel(3, ((1, 1, 1),)), base_product(2, ((1, 1), (0, 1)), ((1,), (1,)))]
[1, ((1, 0, 2), (0, 1, 2)), ((1, 0, 2), (0, 1, 2)), ((0,), (1,))]
>>> [is_solved(5, ((1, 2), (2, 4)), (1, 2), ("solution", (1, 0))), is_solved(5, ((1, 2), (2, 4)), (1, 3), ("barred", (3, 1))), solved(5, ((1, 2), (2, 4)), (1, 3))[0]]
[True, True, 'barred']
>>> F = Field(2, 2)
>>> ONE, X = (1, 0), (0, 1)
>>> [rank_of(F, (ONE, X, (1, 1))), word_rank(F, ((ONE, X),)), word_rank(F, ((ONE, X), (X, (1, 1)))), inverted(F, ((X,),)), inverted(F, ((ONE, X), (X, (1, 1))))[0]]
[2, 1, 1, ('inverse', (((1, 1),),)), 'lost']
"""

BASES = (2, 3, 5, 7, 11, 13)
FIELDS = ((2, 1), (2, 2), (2, 4), (3, 2), (5, 3), (13, 2))
SHAPES = ((0, 0), (1, 0), (3, 0), (1, 1), (1, 4), (4, 1), (2, 2), (3, 3), (2, 5), (5, 2), (4, 4), (6, 7))
WRONG_BASES = [*junk(), 0, 1, 4, 6, 9, 15, 17, (2,), "2"]
WRONG_FIELDS = [*without(junk(), Field), 0, 2, (3, 2), ()]


def wrong_rows(rows, most):
    """Wrong ones for rows with at least two rows; `most` is what one place can have."""
    first = rows[0]
    return [
        *junk(), 0, first, *spoiled(rows), (first, first[:-1]), (first[:-1], *rows[1:]), (*rows, ()),
        (first,) * 61, (first[:1] * 61,), ((),) * 61, ((most,) * len(first),), (rows,), [*rows], (list(first),),
    ]


def wrong_sides(side):
    return [*junk(), 0, (), side[:-1], (*side, side[0]), *spoiled(side), (side,), [*side]]


def dependent_rows(chance, q, many, columns):
    """Base rows of which some are sums of multiples of others."""
    begun = random_rows(chance, q, max(1, many // 2), columns)
    factors = random_rows(chance, q, many, len(begun))
    return tuple(
        tuple(sum(a * b for a, b in zip(row, column)) % q for column in zip(*begun)) for row in factors
    ) if columns else ((),) * many


def dependent_word_rows(own, chance, many, columns):
    begun = random_word_rows(chance, own.q, own.m, max(1, many // 2), columns)
    factors = random_word_rows(chance, own.q, own.m, many, len(begun))
    return own.product(factors, begun) if columns else ((),) * many


def base_matrices(q):
    chance = random.Random(q)
    for many, columns in SHAPES:
        for _ in range(4):
            yield random_rows(chance, q, many, columns)
            yield dependent_rows(chance, q, many, columns)
        yield ((0,) * columns,) * many


def word_matrices(own):
    chance = random.Random(own.q + own.m)
    for many, columns in SHAPES:
        for _ in range(3):
            yield random_word_rows(chance, own.q, own.m, many, columns)
            yield dependent_word_rows(own, chance, many, columns)
        yield ((own.zero,) * columns,) * many


class Examples(unittest.TestCase):
    def test_examples(self):
        run_examples(self, EXAMPLES, {**vars(fields), **vars(matrices)})

    def test_constant(self):
        self.assertEqual(MOST_SIZE, 60)


class BaseRows(unittest.TestCase):
    def test_rank_and_echelon(self):
        for q in BASES:
            own = Own(q, 1)
            for rows in base_matrices(q):
                wanted = lowered_rows(own.echelon(lifted_rows(rows)))
                self.assertEqual(echelon(q, rows), wanted)
                self.assertEqual(base_rank(q, rows), len(wanted))
                self.assertEqual(base_rank(q, rows), own_rank(q, rows))

    def test_columns_have_the_rank_of_rows(self):
        for q in BASES:
            for rows in base_matrices(q):
                if rows and rows[0]:
                    self.assertEqual(base_rank(q, rows), base_rank(q, tuple(zip(*rows))))

    def test_rank_does_not_grow_by_sums(self):
        chance = random.Random(21)
        for q in BASES:
            for _ in range(30):
                rows = random_rows(chance, q, 4, 5)
                left, right = random_rows(chance, q, 4, 4), random_rows(chance, q, 5, 5)
                self.assertLessEqual(base_rank(q, base_product(q, left, rows)), base_rank(q, rows))
                self.assertLessEqual(base_rank(q, base_product(q, rows, right)), base_rank(q, rows))

    def test_equal_sums_just_if_echelons_are_equal(self):
        q = 2
        found = {}
        for rows in [tuple(zip(*[iter(digits)] * 3)) for digits in tuples(q, 6)]:
            sums = frozenset(
                tuple((a * x + b * y) % q for x, y in zip(*rows)) for a in range(q) for b in range(q)
            )
            found.setdefault(sums, set()).add(echelon(q, rows))
        self.assertTrue(all(len(echelons) == 1 for echelons in found.values()))
        self.assertEqual(len({echelons.pop() for echelons in found.values()}), len(found))

    def test_kernel(self):
        for q in BASES:
            for rows in base_matrices(q):
                found = kernel(q, rows)
                columns = len(rows[0]) if rows else 0
                self.assertEqual(len(found), columns - base_rank(q, rows))
                self.assertEqual(echelon(q, found), found)
                for row in rows:
                    for numbers in found:
                        self.assertEqual(sum(a * b for a, b in zip(row, numbers)) % q, 0)

    def test_product(self):
        chance = random.Random(22)
        for q in BASES:
            for many, between, columns in ((1, 1, 1), (2, 3, 4), (4, 2, 1), (3, 3, 3), (2, 3, 0)):
                one, other = random_rows(chance, q, many, between), random_rows(chance, q, between, columns)
                wanted = tuple(
                    tuple(sum(row[k] * other[k][j] for k in range(between)) % q for j in range(columns)) for row in one
                )
                self.assertEqual(base_product(q, one, other), wanted)
        self.assertEqual(base_product(3, (), ()), ())
        self.assertEqual(base_product(3, ((), ()), ()), ((), ()))

    def test_no_rows_and_no_columns(self):
        for q in BASES:
            self.assertEqual([base_rank(q, ()), echelon(q, ()), kernel(q, ())], [0, (), ()])
            self.assertEqual([base_rank(q, ((), ())), echelon(q, ((), ())), kernel(q, ((), ()))], [0, (), ()])
            self.assertEqual(kernel(q, ((0, 0),)), ((1, 0), (0, 1)))
            self.assertEqual(solved(q, (), ()), ("solution", ()))
            self.assertEqual(solved(q, ((), ()), (0, 0)), ("solution", ()))
            self.assertTrue(is_solved(q, ((), ()), (1, 0), solved(q, ((), ()), (1, 0))))
            self.assertTrue(is_solved(q, ((), ()), (1, 0), ("barred", (1, 0))))
            self.assertFalse(is_solved(q, ((), ()), (1, 0), ("solution", ())))

    def test_sixty(self):
        chance = random.Random(23)
        for q in (2, 13):
            rows = dependent_rows(chance, q, 60, 60)
            wanted = lowered_rows(Own(q, 1).echelon(lifted_rows(rows)))
            self.assertEqual(echelon(q, rows), wanted)
            self.assertEqual(base_rank(q, rows), len(wanted))
            self.assertEqual(len(kernel(q, rows)), 60 - len(wanted))
            for many, columns in ((60, 3), (3, 60)):
                rows = random_rows(chance, q, many, columns)
                side = tuple(chance.randrange(q) for _ in range(many))
                self.assertTrue(is_solved(q, rows, side, solved(q, rows, side)))
            one, other = random_rows(chance, q, 60, 60), random_rows(chance, q, 60, 60)
            self.assertEqual(
                base_product(q, one, other)[59][59], sum(one[59][k] * other[k][59] for k in range(60)) % q,
            )
            greatest = ((q - 1,) * 60,) * 60
            self.assertEqual(base_product(q, greatest, greatest), ((60 * (q - 1) ** 2 % q,) * 60,) * 60)


class Solved(unittest.TestCase):
    def check_answer(self, q, rows, side, kind, numbers):
        columns = len(rows[0]) if rows else 0
        if kind == "solution":
            self.assertEqual(len(numbers), columns)
            self.assertEqual(tuple(sum(a * b for a, b in zip(row, numbers)) % q for row in rows), side)
        else:
            self.assertEqual((kind, len(numbers)), ("barred", len(rows)))
            for column in range(columns):
                self.assertEqual(sum(row[column] * number for row, number in zip(rows, numbers)) % q, 0)
            self.assertEqual(sum(a * b for a, b in zip(side, numbers)) % q, 1)

    def test_answers(self):
        chance = random.Random(24)
        kinds = set()
        for q in BASES:
            for rows in base_matrices(q):
                for _ in range(3):
                    side = tuple(chance.randrange(q) for _ in rows)
                    kind, numbers = solved(q, rows, side)
                    self.check_answer(q, rows, side, kind, numbers)
                    self.assertIs(is_solved(q, rows, side, (kind, numbers)), True)
                    kinds.add(kind)
        self.assertEqual(kinds, {"solution", "barred"})

    def test_judge_takes_all_right_ones_and_no_others(self):
        for q, rows in (
            (2, ((1, 0, 1), (0, 1, 1))), (2, ((1, 1), (1, 1), (0, 0))), (3, ((1, 2), (2, 1))), (3, ((0, 0), (0, 1))),
            (5, ((2,), (3,))), (2, ((0, 0, 0),)), (3, ((1, 1, 2),)),
        ):
            for side in tuples(q, len(rows)):
                self.check_all(q, rows, side)

    def check_all(self, q, rows, side):
        right = {"solution": 0, "barred": 0}
        for numbers in tuples(q, len(rows[0])):
            fits = all(sum(a * b for a, b in zip(row, numbers)) % q == c for row, c in zip(rows, side))
            self.assertIs(is_solved(q, rows, side, ("solution", numbers)), fits)
            right["solution"] += fits
        for numbers in tuples(q, len(rows)):
            sums = [sum(row[k] * number for row, number in zip(rows, numbers)) % q for k in range(len(rows[0]))]
            fits = not any(sums) and sum(a * b for a, b in zip(side, numbers)) % q == 1
            self.assertIs(is_solved(q, rows, side, ("barred", numbers)), fits)
            right["barred"] += fits
        self.assertEqual(right["solution"] > 0, right["barred"] == 0)
        self.assertGreater(right[solved(q, rows, side)[0]], 0)

    def test_values_of_any_kind(self):
        rows = ((1, 0), (0, 1))
        values = [
            ("solution",), ("solution", (1, 0), 0), ["solution", (1, 0)], ("solution", [1, 0]), ("solution", (True, 0)),
            ("solution", (1, False)), ("solution", (1, 0, 0)), ("solution", (1,)), ("barred", (1, 0)), ((1, 0),),
            ("solved", (1, 0)), ("solution", (3, 0)), ("solution", (-2, 0)), ("solution", (1 + 10 ** 60, 0)),
            ("solution", None), (None, (1, 0)), ("solution", ((1,), (0,))), ("lost", (1, 0)), (Field(2, 1), (1, 0)),
        ]
        self.assertIs(is_solved(3, rows, (1, 0), ("solution", (1, 0))), True)
        check_judge(self, is_solved, [3, rows, (1, 0)], values)
        check_judge(self, is_solved, [3, rows, (1, 0)], pairs_of("solution", "barred", "inverse", 1, None, ()))
        barred = [("barred", (True, 2)), ("barred", [2, 1]), ("barred", (2, 1, 0)), ("barred", 2), ("solution", (2, 1)),
                  ("barred", (1, 2)), ("barred", (0, 0)), ("barred", (-1, 1))]
        self.assertIs(is_solved(3, ((1,), (1,)), (0, 1), ("barred", (2, 1))), True)
        check_judge(self, is_solved, [3, ((1,), (1,)), (0, 1)], barred)


class WordRows(unittest.TestCase):
    def test_rank_echelon_and_kernel(self):
        for q, m in FIELDS:
            field, own = Field(q, m), Own(q, m)
            for rows in word_matrices(own):
                wanted = own.echelon(rows)
                self.assertEqual(word_echelon(field, rows), wanted)
                self.assertEqual(word_rank(field, rows), len(wanted))
                found = word_kernel(field, rows)
                columns = len(rows[0]) if rows else 0
                self.assertEqual(len(found), columns - len(wanted))
                self.assertEqual(own.echelon(found), found)
                for row in rows:
                    for words in found:
                        self.assertEqual(own.dot(row, words), own.zero)

    def test_degree_one_is_as_over_the_base(self):
        for q in BASES:
            for rows in base_matrices(q):
                field, lifted = Field(q, 1), lifted_rows(rows)
                self.assertEqual(word_echelon(field, lifted), lifted_rows(echelon(q, rows)))
                self.assertEqual(word_kernel(field, lifted), lifted_rows(kernel(q, rows)))
                self.assertEqual(word_rank(field, lifted), base_rank(q, rows))

    def test_product(self):
        chance = random.Random(25)
        for q, m in FIELDS:
            field, own = Field(q, m), Own(q, m)
            for many, between, columns in ((1, 1, 1), (2, 3, 4), (4, 2, 1), (3, 3, 3), (2, 3, 0)):
                one = random_word_rows(chance, q, m, many, between)
                other = random_word_rows(chance, q, m, between, columns)
                self.assertEqual(product(field, one, other), own.product(one, other))
            self.assertEqual([product(field, (), ()), product(field, ((), ()), ())], [(), ((), ())])

    def test_answers(self):
        chance = random.Random(26)
        kinds = set()
        for q, m in FIELDS:
            field, own = Field(q, m), Own(q, m)
            for rows in word_matrices(own):
                side = random_words(chance, q, m, len(rows))
                value = word_solved(field, rows, side)
                kinds.add(value[0])
                if value[0] == "solution":
                    self.assertEqual(tuple(own.dot(row, value[1]) for row in rows), side)
                else:
                    self.assertEqual(value[0], "barred")
                    self.assertTrue(all(own.dot(column, value[1]) == own.zero for column in zip(*rows)))
                    self.assertEqual(own.dot(side, value[1]), own.one)
                self.assertIs(is_word_solved(field, rows, side, value), True)
        self.assertEqual(kinds, {"solution", "barred"})

    def test_judge_takes_all_right_ones_and_no_others(self):
        field, own = Field(2, 2), Own(2, 2)
        one, x, both, nought = (1, 0), (0, 1), (1, 1), (0, 0)
        for rows in (((one, x), (x, both)), ((x, one),), ((both,), (x,)), ((nought, one), (nought, x))):
            for side in own_tuples(own, len(rows)):
                answers = 0
                for words in own_tuples(own, len(rows[0])):
                    fits = tuple(own.dot(row, words) for row in rows) == side
                    self.assertIs(is_word_solved(field, rows, side, ("solution", words)), fits)
                    answers += fits
                for words in own_tuples(own, len(rows)):
                    fits = all(own.dot(column, words) == own.zero for column in zip(*rows))
                    fits = fits and own.dot(side, words) == own.one
                    self.assertIs(is_word_solved(field, rows, side, ("barred", words)), fits)
                    answers += fits
                self.assertGreater(answers, 0)

    def test_values_of_any_kind(self):
        field, rows, side = Field(2, 2), (((1, 0), (0, 0)), ((0, 0), (0, 1))), ((0, 1), (0, 1))
        self.assertIs(is_word_solved(field, rows, side, ("solution", ((0, 1), (1, 0)))), True)
        values = [
            ("solution", ((0, True), (1, 0))), ("solution", [(0, 1), (1, 0)]), ("solution", ((0, 1),)), ("solution", 0),
            ("solution", ((0, 1), (1, 0), (0, 0))), ("solution", ([0, 1], [1, 0])), ("solution", (2, 1)), ("solution",),
            ["solution", ((0, 1), (1, 0))], ("barred", ((0, 1), (1, 0))), ("solution", ((0, 1, 0), (1, 0, 0))),
            ("solution", ((0, 3), (1, 0))), ("inverse", ((0, 1), (1, 0))), (((0, 1), (1, 0)), "solution"),
        ]
        check_judge(self, is_word_solved, [field, rows, side], values)
        check_judge(self, is_word_solved, [Field(3, 2), rows, side], pairs_of("solution", "barred", "lost", 1, None))

    def test_sixty(self):
        chance = random.Random(27)
        for q, m in ((2, 6), (13, 6)):
            field, own = Field(q, m), Own(q, m)
            rows = random_word_rows(chance, q, m, 60, 3)
            self.assertEqual(word_echelon(field, rows), own.echelon(rows))
            rows = random_word_rows(chance, q, m, 3, 60)
            self.assertEqual(word_echelon(field, rows), own.echelon(rows))
            self.assertEqual(len(word_kernel(field, rows)), 57)
            side = random_words(chance, q, m, 60)
            self.assertTrue(is_word_solved(field, tuple(zip(*rows)), side, word_solved(field, tuple(zip(*rows)), side)))
            rows = random_word_rows(chance, q, m, 60, 60)
            self.assertTrue(is_inverted(field, rows, inverted(field, rows)))
            greatest = (((q - 1,) * m,) * 60,)
            turned = tuple(zip(*greatest))
            self.assertEqual(product(field, greatest, turned), own.product(greatest, turned))


def own_tuples(own, many):
    if not many:
        return [()]
    return [(*words, word) for words in own_tuples(own, many - 1) for word in own.words()]


class Inverted(unittest.TestCase):
    def test_answers(self):
        chance = random.Random(28)
        kinds = set()
        for q, m in FIELDS:
            field, own = Field(q, m), Own(q, m)
            for many in (1, 2, 3, 4, 5):
                for rows in (
                    random_word_rows(chance, q, m, many, many), dependent_word_rows(own, chance, many, many),
                    ((own.zero,) * many,) * many, own.unit(many), tuple(reversed(own.unit(many))),
                ):
                    kind, found = inverted(field, rows)
                    kinds.add(kind)
                    if kind == "inverse":
                        self.assertEqual(own.product(found, rows), own.unit(many))
                        self.assertEqual(own.product(rows, found), own.unit(many))
                    else:
                        self.assertEqual((kind, len(found)), ("lost", many))
                        self.assertTrue(any(word != own.zero for word in found))
                        self.assertTrue(all(own.dot(row, found) == own.zero for row in rows))
                    self.assertIs(is_inverted(field, rows, (kind, found)), True)
        self.assertEqual(kinds, {"inverse", "lost"})

    def test_no_rows(self):
        for q, m in FIELDS:
            self.assertEqual(inverted(Field(q, m), ()), ("inverse", ()))
            self.assertIs(is_inverted(Field(q, m), (), ("inverse", ())), True)
            self.assertIs(is_inverted(Field(q, m), (), ("lost", ())), False)
            self.assertIs(is_inverted(Field(q, m), (), ("inverse", ((),))), False)

    def test_judge_takes_all_right_ones_and_no_others(self):
        field, own = Field(2, 2), Own(2, 2)
        one, x, both, nought = (1, 0), (0, 1), (1, 1), (0, 0)
        candidates = [(row, other) for row in own_tuples(own, 2) for other in own_tuples(own, 2)]
        for rows in (((one, x), (x, both)), ((one, x), (nought, both)), ((nought, nought), (nought, one))):
            answers = 0
            for found in candidates:
                fits = own.product(found, rows) == own.unit(2)
                self.assertIs(is_inverted(field, rows, ("inverse", found)), fits)
                answers += fits
            for words in own_tuples(own, 2):
                fits = words != (nought, nought) and all(own.dot(row, words) == nought for row in rows)
                self.assertIs(is_inverted(field, rows, ("lost", words)), fits)
                answers += fits
            self.assertGreater(answers, 0)

    def test_values_of_any_kind(self):
        field, rows = Field(2, 1), (((1,), (1,)), ((0,), (1,)))
        self.assertIs(is_inverted(field, rows, ("inverse", rows)), True)
        values = [
            ("inverse", list(rows)), ("inverse", (((1,), (1,)),)), ("inverse", (((1,),), ((0,),))), ("inverse",),
            ("inverse", ((1, 1), (0, 1))), ("inverse", (((True,), (1,)), ((0,), (1,)))), ("inverse", (*rows, rows[0])),
            ("inverse", rows, rows), ["inverse", rows], ("lost", ((0,), (0,))), ("lost", ((1,), (1,))), ("lost", 0),
            ("inverse", (rows[0], [(0,), (1,)])), ("inverse", 0), ("inverse", ()), ("solution", rows),
            ("inverse", (((1,), (1,), (0,)), ((0,), (1,), (0,)))),
        ]
        check_judge(self, is_inverted, [field, rows], values)
        flat = (((1,), (1,)), ((1,), (1,)))
        self.assertIs(is_inverted(field, flat, ("lost", ((1,), (1,)))), True)
        values = [
            ("lost", ((0,), (0,))), ("lost", ((True,), (1,))), ("lost", ((1,),)), ("lost", ((1,), (1,), (0,))),
            ("lost", [(1,), (1,)]), ("lost", (1, 1)), ("lost", ((1,), (0,))), ("inverse", ((1,), (1,))),
        ]
        check_judge(self, is_inverted, [field, flat], values)
        for square in (rows, flat):
            check_judge(self, is_inverted, [field, square], pairs_of("inverse", "barred", 1, None))
        check_judge(self, is_inverted, [field, rows], pairs_of("lost"))


class RankOverTheBase(unittest.TestCase):
    def test_rank(self):
        chance = random.Random(29)
        for q, m in ((2, 1), (2, 3), (2, 6), (3, 2), (3, 4), (5, 2), (13, 2)):
            field = Field(q, m)
            for many in range(7):
                words = random_words(chance, q, m, many)
                self.assertEqual(rank_of(field, words), own_rank(q, words))
                self.assertLessEqual(rank_of(field, words), m)
                if q ** m < 100:
                    self.assertEqual(len(OwnPolynomials(q, m).span(words)), q ** rank_of(field, words))
        self.assertEqual(rank_of(Field(2, 6), random_words(chance, 2, 6, 60)), 6)
        self.assertEqual(rank_of(Field(2, 6), ()), 0)

    def test_ranks_over_base_and_field_of_the_same_words(self):
        field, words = Field(2, 3), ((1, 0, 0), (0, 1, 0), (1, 1, 0))
        self.assertEqual([rank_of(field, words), word_rank(field, (words,))], [2, 1])
        self.assertEqual(word_rank(field, tuple((word,) for word in words)), 1)
        self.assertEqual(rank_of(field, ((0, 0, 0),) * 60), 0)


class WrongArguments(unittest.TestCase):
    def test_base_rows(self):
        rows, side = ((1, 2, 0), (0, 1, 1)), (1, 2)
        wrong_q = (errors.InvalidNumber, WRONG_BASES)
        wrong = (errors.InvalidMatrix, wrong_rows(rows, 3))
        for function in (base_rank, echelon, kernel):
            check_parameters(self, function, [3, rows], [wrong_q, wrong])
        sides = (errors.InvalidMatrix, [*wrong_sides(side), (1, 3), (1, -1)])
        check_parameters(self, solved, [3, rows, side], [wrong_q, wrong, sides])
        check_parameters(self, is_solved, [3, rows, side, ()], [wrong_q, wrong, sides, None])
        square = ((1, 2), (0, 1))
        wrong = (errors.InvalidMatrix, wrong_rows(square, 3))
        check_parameters(self, base_product, [3, square, square], [wrong_q, wrong, wrong])

    def test_word_rows(self):
        field, rows, side = Field(3, 2), (((1, 0), (0, 1)), ((2, 2), (0, 0))), ((1, 1), (0, 2))
        wrong_field = (errors.InvalidField, WRONG_FIELDS)
        wrong = (errors.InvalidMatrix, [*wrong_rows(rows, (3, 0)), (((1,), (0,)),), ((1, 0), (0, 1))])
        for function in (word_rank, word_echelon, word_kernel, inverted):
            check_parameters(self, function, [field, rows], [wrong_field, wrong])
        check_parameters(self, is_inverted, [field, rows, 0], [wrong_field, wrong, None])
        sides = (errors.InvalidMatrix, [*wrong_sides(side), ((1, 3), (0, 0)), ((1,), (0,)), (1, 2)])
        check_parameters(self, word_solved, [field, rows, side], [wrong_field, wrong, sides])
        check_parameters(self, is_word_solved, [field, rows, side, 0], [wrong_field, wrong, sides, None])
        check_parameters(self, product, [field, rows, rows], [wrong_field, wrong, wrong])

    def test_words(self):
        words = ((1, 0), (2, 1))
        wrong = [*junk(), 0, *spoiled(words), (words[0],) * 61, ((1, 0, 0),), ((1,),), ((3, 0),), (words,), (1, 0)]
        check_parameters(self, rank_of, [Field(3, 2), words], [
            (errors.InvalidField, WRONG_FIELDS), (errors.InvalidWord, wrong),
        ])
        self.assertEqual(rank_of(Field(3, 2), (words[0],) * 60), 1)

    def test_products_that_do_not_fit(self):
        for one, other in (
            (((1, 0),), ((1,),)), (((1,),), ()), ((), ((1,),)), (((), ()), ((1,),)), (((1, 1),), ((1, 1),)), ((), ((),)),
        ):
            told(self, base_product, [2, one, other], errors.InvalidOperation)
            told(self, product, [Field(2, 1), lifted_rows(one), lifted_rows(other)], errors.InvalidOperation)
        told(self, base_product, [2, ((1, 0),), ((2,),)], errors.InvalidMatrix)
        told(self, base_product, [4, ((1, 0),), ((1,),)], errors.InvalidNumber, [4])
        told(self, product, [Field(2, 1), (((1,),),), ((1,),)], errors.InvalidMatrix)

    def test_rows_not_as_many_as_columns(self):
        field = Field(2, 1)
        for rows in ((((1,), (0,)),), (((1,),), ((1,),)), ((),), ((), ())):
            told(self, inverted, [field, rows], errors.InvalidOperation)
            told(self, is_inverted, [field, rows, 0], errors.InvalidOperation)
        told(self, inverted, [field, (((1,), (2,)),)], errors.InvalidMatrix)
        told(self, inverted, [None, (((1,), (0,)),)], errors.InvalidField)


class NoneIsTrue(unittest.TestCase):
    """[2.7]"""

    def test_words_independent_over_the_base_are_not_so_over_the_field(self):
        field, words = Field(2, 2), ((1, 0), (0, 1))
        self.assertEqual(rank_of(field, words), 2)
        self.assertEqual(word_rank(field, tuple((word,) for word in words)), 1)

    def test_solution_is_not_the_only_one_though_no_row_is_zero(self):
        for numbers in ((0, 0), (1, 1)):
            self.assertTrue(is_solved(2, ((1, 1),), (0,), ("solution", numbers)))

    def test_rows_whose_product_is_zero_without_a_zero_row(self):
        self.assertEqual(base_product(2, ((1, 1), (1, 1)), ((1, 1), (1, 1))), ((0, 0), (0, 0)))
