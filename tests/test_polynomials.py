"""Stage 3: linearised polynomials."""

import itertools
import random
import unittest

from rowsthrough import errors
from rowsthrough.base import fields
from rowsthrough.base.fields import Field
from rowsthrough.base.matrices import echelon
from rowsthrough.code import polynomials
from rowsthrough.code.polynomials import (
    MOST_COEFFICIENTS, is_polynomial, left_divided, left_joined, matrix_of, poly_product, poly_sum, polynomial_of,
    right_divided, right_shared, roots, value_at, zero_on,
)
from tests.helper import (
    OwnPolynomials, check_parameters, junk, random_words, run_examples, spoiled, told, tuples, without,
)

EXAMPLES = """
>>> F4, X, SQUARE = Field(2, 2), ((1, 0),), ((0, 0), (1, 0))
>>> [value_at(F4, ((1, 0), (1, 0)), (0, 1)), roots(F4, ((1, 0), (1, 0))), zero_on(F4, ((0, 1),)), zero_on(F4, ()), roots(F4, ())]
[(1, 0), ((1, 0),), ((0, 1), (1, 0)), ((1, 0),), ((1, 0), (0, 1))]
>>> [poly_product(F4, ((0, 1),), SQUARE), poly_product(F4, SQUARE, ((0, 1),)), poly_sum(F4, X, X)]
[((0, 0), (0, 1)), ((0, 0), (1, 1)), ()]
>>> right_divided(F4, ((0, 0), (0, 0), (1, 0)), ((0, 1), (1, 0)))
(((1, 1), (1, 0)), ((1, 0),))
>>> [matrix_of(F4, SQUARE), polynomial_of(F4, ((0, 1), (1, 0))), right_shared(F4, ((0, 1), (1, 0)), ((1, 0), (1, 0))), len(left_joined(F4, ((0, 1), (1, 0)), ((1, 0), (1, 0))))]
[((1, 0), (1, 1)), ((0, 0), (0, 1)), ((1, 0),), 3]
>>> roots(Field(3, 1), ((1,), (1,)))
()
>>> left_divided(F4, X, ())
raises InvalidOperation
"""

KINDS = ((2, 1), (2, 2), (2, 3), (2, 5), (3, 1), (3, 2), (3, 3), (5, 2), (7, 1), (13, 2), (13, 6))
SMALL = ((2, 1), (2, 2), (2, 3), (2, 4), (3, 1), (3, 2), (5, 1), (5, 2), (7, 1))
OWN = {kind: OwnPolynomials(*kind) for kind in (*KINDS, (2, 4), (5, 1))}
WRONG_FIELDS = [*without(junk(), Field), 0, 2, (3, 2), ()]


def wrong_polynomials(right):
    """Wrong ones for a polynomial over the field with base 3 and degree 2."""
    return [
        *junk(), 0, *spoiled(right), ((0, 0),), (*right, (0, 0)), ((1, 0),) * 21, ((3, 0),), ((1,),), ((1, 0, 0),),
        (1, 0), right[0], (right,), ((0, -1),),
    ]


def given(seed):
    """For each kind of field: the field, the tests' own one, and chance."""
    for kind in KINDS:
        yield Field(*kind), OWN[kind], random.Random(seed + kind[0])


class Examples(unittest.TestCase):
    def test_examples(self):
        run_examples(self, EXAMPLES, {**vars(fields), **vars(polynomials)})

    def test_constant(self):
        self.assertEqual(MOST_COEFFICIENTS, 20)


class WhatPolynomialsAre(unittest.TestCase):
    def test_right_ones(self):
        for field, own, chance in given(30):
            for many in (0, 1, 2, 5, 19, 20):
                self.assertIs(is_polynomial(field, own.random_polynomial(chance, many)), True)
            self.assertIs(is_polynomial(field, (own.zero, own.one)), True)

    def test_wrong_ones(self):
        field = Field(3, 2)
        right = ((1, 2), (0, 0), (2, 0))
        self.assertIs(is_polynomial(field, right), True)
        self.assertIs(is_polynomial(field, ()), True)
        for value in wrong_polynomials(right):
            self.assertIs(is_polynomial(field, value), False, value)
        check_parameters(self, is_polynomial, [field, right], [(errors.InvalidField, WRONG_FIELDS), None])


class Values(unittest.TestCase):
    def test_values(self):
        for field, own, chance in given(31):
            for many in (0, 1, 2, 3, 7, 20):
                polynomial = own.random_polynomial(chance, many)
                for word in (own.zero, own.one, *random_words(chance, own.q, own.m, 6)):
                    self.assertEqual(value_at(field, polynomial, word), own.value(polynomial, word))

    def test_values_are_linear_over_the_base(self):
        for kind in SMALL:
            field, own, chance = Field(*kind), OWN[kind], random.Random(32)
            polynomial = own.random_polynomial(chance, 4)
            for _ in range(20):
                one, other = random_words(chance, own.q, own.m, 2)
                c = chance.randrange(own.q)
                total = own.plus(one, tuple(c * digit % own.q for digit in other))
                further = tuple(c * digit % own.q for digit in value_at(field, polynomial, other))
                self.assertEqual(value_at(field, polynomial, total), own.plus(value_at(field, polynomial, one), further))

    def test_one_polynomial_for_each_matrix(self):
        for kind in ((2, 1), (2, 2), (2, 3), (3, 1), (3, 2), (5, 1), (13, 1)):
            field, own = Field(*kind), OWN.get(kind) or OwnPolynomials(*kind)
            found = set()
            for digits in tuples(own.q, own.m * own.m):
                matrix = tuple(digits[k * own.m:(k + 1) * own.m] for k in range(own.m))
                polynomial = polynomial_of(field, matrix)
                self.assertTrue(is_polynomial(field, polynomial) and len(polynomial) <= own.m)
                self.assertEqual(matrix_of(field, polynomial), matrix)
                found.add(polynomial)
            self.assertEqual(found, set(own.polynomials(own.m)))

    def test_matrices_of_polynomials(self):
        for field, own, chance in given(33):
            units = [tuple(int(i == j) for j in range(own.m)) for i in range(own.m)]
            for many in (0, 1, 2, own.m, own.m + 1, 20):
                polynomial = own.random_polynomial(chance, many)
                wanted = tuple(own.value(polynomial, unit) for unit in units)
                self.assertEqual(matrix_of(field, polynomial), wanted)
                if many <= own.m:
                    self.assertEqual(polynomial_of(field, wanted), polynomial)
            zeros = ((0,) * own.m,) * own.m
            self.assertEqual([polynomial_of(field, zeros), matrix_of(field, ())], [(), zeros])


class SumsAndProducts(unittest.TestCase):
    def test_sums(self):
        for field, own, chance in given(34):
            for many, further in ((0, 0), (0, 3), (1, 1), (2, 5), (5, 2), (20, 20), (4, 4)):
                one, other = own.random_polynomial(chance, many), own.random_polynomial(chance, further)
                found = poly_sum(field, one, other)
                self.assertEqual(found, own.sum_of(one, other))
                word = random_words(chance, own.q, own.m, 1)[0]
                self.assertEqual(own.value(found, word), own.plus(own.value(one, word), own.value(other, word)))

    def test_sums_that_are_shorter(self):
        field = Field(3, 2)
        self.assertEqual(poly_sum(field, ((1, 0), (1, 1)), ((0, 1), (2, 2))), ((1, 1),))
        self.assertEqual(poly_sum(field, ((1, 0), (1, 1)), ((2, 0), (2, 2))), ())

    def test_products(self):
        for field, own, chance in given(35):
            for many, further in ((0, 0), (0, 3), (3, 0), (1, 1), (2, 5), (5, 2), (10, 11), (20, 1), (1, 20), (4, 4)):
                one, other = own.random_polynomial(chance, many), own.random_polynomial(chance, further)
                found = poly_product(field, one, other)
                self.assertEqual(found, own.behind(one, other))
                for word in random_words(chance, own.q, own.m, 3):
                    self.assertEqual(own.value(found, word), own.value(one, own.value(other, word)))

    def test_laws(self):
        for field, own, chance in given(36):
            f, g, h = [own.random_polynomial(chance, many) for many in (3, 4, 4)]
            self.assertEqual(
                poly_product(field, f, poly_product(field, g, h)), poly_product(field, poly_product(field, f, g), h),
            )
            self.assertEqual(
                poly_product(field, f, poly_sum(field, g, h)),
                poly_sum(field, poly_product(field, f, g), poly_product(field, f, h)),
            )
            self.assertEqual(
                poly_product(field, poly_sum(field, g, h), f),
                poly_sum(field, poly_product(field, g, f), poly_product(field, h, f)),
            )

    def test_products_with_too_many_coefficients(self):
        field = Field(2, 2)
        for many, further in ((20, 2), (2, 20), (11, 11), (20, 20)):
            with self.assertRaises(errors.TooMany) as caught:
                poly_product(field, ((1, 0),) * many, ((0, 1),) * further)
            self.assertEqual(caught.exception.limit, 20)
        self.assertEqual(len(poly_product(field, ((1, 0),) * 11, ((0, 1),) * 10)), 20)
        told(self, poly_product, [field, ((1, 0),) * 20, ((1, 0),) * 21], errors.InvalidPolynomial)


class Division(unittest.TestCase):
    def test_put_together_again(self):
        for field, own, chance in given(37):
            for many, further in ((0, 1), (1, 1), (3, 1), (3, 3), (5, 2), (2, 5), (20, 4), (20, 20), (7, 6)):
                one, other = own.random_polynomial(chance, many), own.random_polynomial(chance, further)
                part, rest = right_divided(field, one, other)
                self.assertLess(len(rest), further)
                self.assertEqual(own.sum_of(own.behind(part, other), rest), one)
                part, rest = left_divided(field, one, other)
                self.assertLess(len(rest), further)
                self.assertEqual(own.sum_of(own.behind(other, part), rest), one)

    def test_rests_that_were_put_in(self):
        for field, own, chance in given(38):
            for many, further, left in ((0, 2, 1), (1, 1, 0), (3, 3, 2), (4, 3, 0), (4, 5, 3), (15, 6, 5), (2, 2, 1)):
                part, other = own.random_polynomial(chance, many), own.random_polynomial(chance, further)
                rest = own.random_polynomial(chance, left)
                whole = own.sum_of(own.behind(part, other), rest)
                self.assertEqual(right_divided(field, whole, other), (part, rest))
                whole = own.sum_of(own.behind(other, part), rest)
                self.assertEqual(left_divided(field, whole, other), (part, rest))

    def test_only_one_pair(self):
        field, own = Field(2, 2), OWN[2, 2]
        for one in own.polynomials(3)[::3]:
            for other in own.polynomials(2)[1:]:
                rests = [rest for rest in own.polynomials(1) if len(rest) < len(other)]
                for divided, behind in (
                    (right_divided, lambda a, b: own.behind(a, b)), (left_divided, lambda a, b: own.behind(b, a)),
                ):
                    right = [
                        (a, rest) for a in set(own.polynomials(3)) for rest in set(rests)
                        if len(a) + len(other) <= 4 and own.sum_of(behind(a, other), rest) == one
                    ]
                    self.assertEqual(right, [divided(field, one, other)])

    def test_nought(self):
        for divided in (right_divided, left_divided):
            self.assertEqual(divided(Field(3, 2), (), ((1, 1), (0, 2))), ((), ()))
            told(self, divided, [Field(3, 2), ((1, 0),), ()], errors.InvalidOperation)
            told(self, divided, [Field(3, 2), (), ()], errors.InvalidOperation)
            told(self, divided, [Field(3, 2), ((0, 0),), ()], errors.InvalidPolynomial)


class Roots(unittest.TestCase):
    def check_roots(self, field, own, polynomial):
        found = roots(field, polynomial)
        self.assertEqual(echelon(own.q, found), found)
        self.assertEqual(own.span(found), {word for word in own.words() if own.value(polynomial, word) == own.zero})
        if polynomial:
            self.assertLess(len(found), len(polynomial))
        return len(found)

    def test_roots(self):
        for kind in SMALL:
            field, own, chance = Field(*kind), OWN[kind], random.Random(39)
            seen = set()
            for polynomial in [*own.polynomials(2)[:60], (own.zero, own.zero, own.one)]:
                seen.add(self.check_roots(field, own, polynomial))
            for many in range(1, own.m + 1):
                words = random_words(chance, own.q, own.m, many)
                seen.add(self.check_roots(field, own, own.behind((own.one, own.one), zero_on(field, words))))
            self.assertIn(0, seen)
            self.assertGreater(len(seen), 1)

    def test_roots_of_nought(self):
        for kind in KINDS:
            units = tuple(tuple(int(i == j) for j in range(kind[1])) for i in range(kind[1]))
            self.assertEqual(roots(Field(*kind), ()), units)

    def test_zero_polynomials(self):
        for kind in SMALL:
            field, own, chance = Field(*kind), OWN[kind], random.Random(40)
            for many in range(6):
                for _ in range(4):
                    words = random_words(chance, own.q, own.m, many)
                    self.check_zero(field, own, words)
                    self.check_zero(field, own, (*words, *words, own.total(words), own.zero))

    def check_zero(self, field, own, words):
        found = zero_on(field, words)
        self.assertEqual(len(found), own.rank(words) + 1)
        self.assertEqual(found[-1], own.one)
        span = own.span(words)
        self.assertEqual({word for word in own.words() if own.value(found, word) == own.zero}, span)
        self.assertEqual(own.span(roots(field, found)), span)

    def test_fewest_coefficients(self):
        field, own = Field(2, 3), OWN[2, 3]
        words = ((1, 1, 0), (0, 1, 1), (1, 0, 1))
        zero = [f for f in own.polynomials(3) if f and all(own.value(f, word) == own.zero for word in words)]
        least = min(len(f) for f in zero)
        self.assertEqual([zero_on(field, words)], [f for f in zero if len(f) == least and f[-1] == own.one])

    def test_no_words_and_many_words(self):
        for kind in KINDS:
            field, own = Field(*kind), OWN[kind]
            self.assertEqual(zero_on(field, ()), (own.one,))
            self.assertEqual(zero_on(field, (own.zero,) * 70), (own.one,))
            minus_one = (own.q - 1,) + (0,) * (own.m - 1)
            everywhere = (minus_one,) + (own.zero,) * (own.m - 1) + (own.one,)
            units = tuple(tuple(int(i == j) for j in range(own.m)) for i in range(own.m))
            self.assertEqual(zero_on(field, units * 20), everywhere)


class SharedAndJoined(unittest.TestCase):
    def check_shared(self, field, own, one, other):
        found = right_shared(field, one, other)
        self.assertEqual(found[-1], own.one)
        self.assertEqual(right_divided(field, one, found)[1], ())
        self.assertEqual(right_divided(field, other, found)[1], ())
        if own.q ** own.m <= 25:
            common = set(own.span(roots(field, one))) & own.span(roots(field, other))
            self.assertEqual(own.span(roots(field, found)), common)
        return found

    def check_joined(self, field, own, one, other, shared):
        found = left_joined(field, one, other)
        self.assertEqual(found[-1], own.one)
        self.assertEqual(right_divided(field, found, one)[1], ())
        self.assertEqual(right_divided(field, found, other)[1], ())
        self.assertEqual(len(found) + len(shared), len(one) + len(other))
        sums = own.span((*roots(field, one), *roots(field, other)))
        if own.q ** own.m <= 25:
            self.assertLessEqual(sums, own.span(roots(field, found)))

    def test_common_ones_that_were_put_in(self):
        for field, own, chance in given(41):
            for many, further, common in ((1, 1, 1), (2, 2, 2), (3, 1, 2), (1, 4, 3), (3, 4, 5), (5, 5, 1), (6, 8, 6)):
                put_in = own.random_polynomial(chance, common)
                one = own.behind(own.random_polynomial(chance, many), put_in)
                other = own.behind(own.random_polynomial(chance, further), put_in)
                found = self.check_shared(field, own, one, other)
                self.assertEqual(right_divided(field, found, put_in)[1], ())
                self.check_joined(field, own, one, other, found)

    def test_greatest_and_least_ones(self):
        field, own = Field(2, 2), OWN[2, 2]
        monic = [f for f in set(own.polynomials(3)) if f and f[-1] == own.one]
        some = sorted(set(own.polynomials(3)))[1::5]
        for one, other in itertools.combinations(some, 2):
            divisors = [f for f in monic if not right_divided(field, one, f)[1] and not right_divided(field, other, f)[1]]
            found = right_shared(field, one, other)
            self.assertIn(found, divisors)
            self.assertTrue(all(len(f) < len(found) or f == found for f in divisors))
            multiples = [f for f in monic if not right_divided(field, f, one)[1] and not right_divided(field, f, other)[1]]
            joined = left_joined(field, one, other)
            self.assertTrue(all(len(joined) < len(f) or f == joined for f in multiples))

    def test_divisor_is_a_sum_of_multiples(self):
        field, own = Field(2, 2), OWN[2, 2]
        for one, other in itertools.combinations(sorted(set(own.polynomials(2)))[1:], 2):
            sums = {
                own.sum_of(own.behind(a, one), own.behind(b, other))
                for a in own.polynomials(1) for b in own.polynomials(1)
            }
            self.assertIn(right_shared(field, one, other), sums)

    def test_roots_of_joined_ones_are_all_sums_where_all_roots_are_there(self):
        for kind in ((2, 3), (3, 2), (2, 4), (5, 2)):
            field, own, chance = Field(*kind), OWN[kind], random.Random(42)
            for _ in range(10):
                words, others = random_words(chance, own.q, own.m, 2), random_words(chance, own.q, own.m, 2)
                found = left_joined(field, zero_on(field, words), zero_on(field, others))
                self.assertEqual(own.span(roots(field, found)), own.span((*words, *others)))
                self.assertEqual(found, zero_on(field, (*words, *others)))

    def test_noughts(self):
        for field, own, chance in given(43):
            one = own.random_polynomial(chance, 4)
            monic = own.behind((own.inverse(one[-1]),), one)
            self.assertEqual([right_shared(field, one, ()), right_shared(field, (), one)], [monic, monic])
            self.assertEqual([right_shared(field, (), ()), left_joined(field, (), ())], [(), ()])
            self.assertEqual([left_joined(field, one, ()), left_joined(field, (), one)], [(), ()])
            self.assertEqual([right_shared(field, one, one), left_joined(field, one, one)], [monic, monic])

    def test_too_many_coefficients(self):
        field, own, chance = Field(2, 6), OwnPolynomials(2, 6), random.Random(44)
        seen = set()
        for many, further in ((20, 20), (11, 10), (11, 11), (10, 12), (20, 2), (19, 2), (20, 1)):
            one, other = own.random_polynomial(chance, many), own.random_polynomial(chance, further)
            wanted = many + further - len(right_shared(field, one, other))
            seen.add(wanted > 20)
            if wanted > 20:
                with self.assertRaises(errors.TooMany) as caught:
                    left_joined(field, one, other)
                self.assertEqual(caught.exception.limit, 20)
            else:
                self.assertEqual(len(left_joined(field, one, other)), wanted)
        self.assertEqual(seen, {True, False})
        squares = [((0,) * 6,) * many + ((1,) + (0,) * 5,) for many in (10, 19)]
        self.assertEqual(len(left_joined(field, *squares)), 20)


class WrongArguments(unittest.TestCase):
    def test_two_polynomials(self):
        one, other = ((1, 2), (0, 1)), ((2, 2), (0, 0), (1, 0))
        wrong_field = (errors.InvalidField, WRONG_FIELDS)
        for function in (poly_sum, poly_product, right_divided, left_divided, right_shared, left_joined):
            check_parameters(self, function, [Field(3, 2), one, other], [
                wrong_field, (errors.InvalidPolynomial, wrong_polynomials(one)),
                (errors.InvalidPolynomial, wrong_polynomials(other)),
            ])

    def test_one_polynomial(self):
        field, polynomial, word = Field(3, 2), ((1, 2), (0, 1)), (1, 2)
        wrong_field = (errors.InvalidField, WRONG_FIELDS)
        wrong = (errors.InvalidPolynomial, wrong_polynomials(polynomial))
        check_parameters(self, value_at, [field, polynomial, word], [
            wrong_field, wrong, (errors.InvalidWord, [*junk(), 0, (), (1, 3), (1,), *spoiled(word)]),
        ])
        check_parameters(self, roots, [field, polynomial], [wrong_field, wrong])
        check_parameters(self, matrix_of, [field, polynomial], [wrong_field, wrong])

    def test_words_and_matrices(self):
        field, words = Field(3, 2), ((1, 2), (0, 1))
        wrong_field = (errors.InvalidField, WRONG_FIELDS)
        wrong = [*junk(), 0, *spoiled(words), ((3, 0),), ((1,),), (1, 2), ((1, 0, 0),), (words,)]
        check_parameters(self, zero_on, [field, words], [wrong_field, (errors.InvalidWord, wrong)])
        wrong = [*wrong, (), words[:1], (*words, (0, 0)), ((1, 2, 0), (0, 1, 0)), ((1, 2), (0, 1, 0))]
        check_parameters(self, polynomial_of, [field, words], [wrong_field, (errors.InvalidMatrix, wrong)])

    def test_judge(self):
        for value in [*junk(), 0, 1, ((),), ((0,),), ((2,),), [(1,)], ((1,), (0,)), ((True,),)]:
            self.assertIs(is_polynomial(Field(2, 1), value), False)


class NoneIsTrue(unittest.TestCase):
    """[3.6]"""

    def test_fewer_roots(self):
        self.assertEqual(roots(Field(3, 1), ((1,), (1,))), ())

    def test_behind_is_not_the_same_the_other_way(self):
        field, one, other = Field(2, 2), ((0, 1),), ((0, 0), (1, 0))
        self.assertNotEqual(poly_product(field, one, other), poly_product(field, other, one))

    def test_divisor_on_the_right_not_on_the_left(self):
        field, own = Field(2, 2), OWN[2, 2]
        pairs = [
            (one, other) for one in own.polynomials(3) for other in own.polynomials(2)[1:]
            if not right_divided(field, one, other)[1] and left_divided(field, one, other)[1]
        ]
        self.assertTrue(pairs)

    def test_unlike_polynomials_with_equal_values(self):
        field = Field(2, 2)
        one, other = ((1, 0),), ((0, 0), (0, 0), (1, 0))
        for word in tuples(2, 2):
            self.assertEqual(value_at(field, one, word), value_at(field, other, word))
