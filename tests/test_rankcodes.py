"""Stage 4: rank codes."""

import itertools
import random
import unittest

from rowsthrough import errors
from rowsthrough.base import fields
from rowsthrough.base.fields import Field
from rowsthrough.base.matrices import inverted
from rowsthrough.code import rankcodes
from rowsthrough.code.rankcodes import (
    are_independent, check_points, codeword, is_check_points, is_codeword, moore, nearest_pair, polynomial_through,
    rank_counts, rank_distance, syndromes,
)
from tests.helper import (
    OwnPolynomials, check_judge, check_parameters, junk, random_words, run_examples, spoiled, told, without,
)

EXAMPLES = """
>>> F8, G8 = Field(2, 3), ((1, 0, 0), (0, 1, 0), (0, 0, 1))
>>> [F8.polynomial, moore(F8, G8, 2)[1], are_independent(F8, ((1, 1, 0), (0, 1, 1), (1, 0, 1)))]
[(1, 0, 1), ((1, 0, 0), (0, 0, 1), (1, 1, 1)), False]
>>> [codeword(F8, G8, ((0, 1, 0), (1, 0, 0))), is_codeword(F8, G8, 1, ((0, 1, 0), (0, 0, 1), (1, 0, 1))), polynomial_through(F8, G8, ((0, 1, 0), (0, 0, 1), (1, 0, 1)))]
[((1, 1, 0), (0, 0, 0), (0, 1, 0)), True, ((0, 1, 0),)]
>>> [rank_counts(F8, 3, 1), rank_counts(Field(2, 2), 2, 2), rank_distance(F8, G8, ((1, 0, 0), (0, 0, 1), (0, 0, 1))), syndromes(F8, check_points(F8, G8, 2), 2, codeword(F8, G8, ((1, 0, 0), (0, 1, 1))))]
[(1, 0, 0, 7), (1, 9, 6), 1, ((0, 0, 0),)]
"""

KINDS = ((2, 1), (2, 2), (2, 3), (2, 4), (3, 1), (3, 2), (3, 3), (5, 2), (13, 1), (13, 2), (2, 6), (13, 6))
OWN = {kind: OwnPolynomials(*kind) for kind in (*KINDS, (7, 1))}
# Codes of which all codewords are tried: fields, how many points, sizes.
TRIED = (
    (2, 1, 1, 1), (2, 2, 1, 1), (2, 2, 2, 1), (2, 2, 2, 2), (2, 3, 2, 1), (2, 3, 2, 2), (2, 3, 3, 1), (2, 3, 3, 2),
    (2, 3, 3, 3), (2, 4, 3, 1), (2, 4, 3, 2), (2, 4, 4, 2), (3, 1, 1, 1), (3, 2, 1, 1), (3, 2, 2, 1), (3, 2, 2, 2),
    (3, 3, 2, 2), (3, 3, 3, 1), (5, 2, 2, 1), (5, 2, 2, 2), (7, 1, 1, 1),
)
WRONG_FIELDS = [*without(junk(), Field), 0, 2, (3, 2), ()]
# Wrong ones for two points over the field with base 3 and degree 3, and for words.
POINTS = ((1, 0, 2), (0, 1, 1))
WRONG_POINTS = [
    *junk(), 0, (), *spoiled(POINTS), ((0, 0, 0),), ((1, 0, 2), (2, 0, 1)), ((1, 0, 2), (0, 1, 1), (1, 1, 0)),
    ((1, 0),), ((1, 0, 3),), (1, 0, 2), (POINTS,), ((1, 0, 0), (0, 1, 0), (0, 0, 1), (1, 1, 1)), (POINTS[0],) * 7,
]
WRONG_WORDS = [
    *junk(), 0, *spoiled(POINTS), ((1, 0),), ((1, 0, 3),), (1, 0, 2), (POINTS,), ((0, 0, 0),) * 21, ((0, 0, -1),),
]


def independent(own, chance, many):
    found = []
    while len(found) < many:
        word = random_words(chance, own.q, own.m, 1)[0]
        if own.rank([*found, word]) > len(found):
            found.append(word)
    return tuple(found)


def codes(kinds=KINDS):
    """Fields, the tests' own ones, points and sizes."""
    for kind in kinds:
        own, chance = OWN[kind], random.Random(50 + kind[1])
        for many in range(1, own.m + 1):
            for size in range(1, many + 1):
                yield Field(*kind), own, independent(own, chance, many), size, chance


def tried():
    """Fields, the tests' own ones, points, sizes and all codewords."""
    for q, m, many, size in TRIED:
        own = OWN[q, m]
        points = independent(own, random.Random(51), many)
        words = [tuple(own.value(f, point) for point in points) for f in own.polynomials(size)]
        yield Field(q, m), own, points, size, words


class Examples(unittest.TestCase):
    def test_examples(self):
        run_examples(self, EXAMPLES, {**vars(fields), **vars(rankcodes)})


class Moore(unittest.TestCase):
    def test_rows(self):
        for kind in KINDS:
            field, own, chance = Field(*kind), OWN[kind], random.Random(52)
            for many, size in ((0, 1), (0, 3), (1, 1), (2, 3), (3, 7), (20, 2), (1, 20)):
                words = random_words(chance, own.q, own.m, many)
                wanted = tuple(tuple(own.raised(word, turns) for word in words) for turns in range(size))
                self.assertEqual(moore(field, words, size), wanted)

    def test_inverse_just_if_independent(self):
        field, own = Field(2, 3), OWN[2, 3]
        for words in itertools.product(own.words(), repeat=3):
            free = own.rank(words) == 3
            self.assertIs(are_independent(field, words), free)
            self.assertEqual(inverted(field, moore(field, words, 3))[0], "inverse" if free else "lost")

    def test_independent_words(self):
        for kind in KINDS:
            field, own, chance = Field(*kind), OWN[kind], random.Random(53)
            self.assertIs(are_independent(field, ()), True)
            self.assertIs(are_independent(field, (own.zero,)), False)
            for many in range(1, own.m + 3):
                words = random_words(chance, own.q, own.m, many)
                self.assertIs(are_independent(field, words), own.rank(words) == many)
                if many <= own.m:
                    self.assertIs(are_independent(field, independent(own, chance, many)), True)
            self.assertIs(are_independent(field, random_words(chance, own.q, own.m, 20)), False)


class Codewords(unittest.TestCase):
    def test_values(self):
        for field, own, points, size, chance in codes():
            for many in {0, 1, size, len(points)}:
                polynomial = own.random_polynomial(chance, many)
                words = tuple(own.value(polynomial, point) for point in points)
                self.assertEqual(codeword(field, points, polynomial), words)
                self.assertEqual(polynomial_through(field, points, words), polynomial)
                self.assertIs(is_codeword(field, points, size, words), many <= size)

    def test_which_tuples_are_codewords(self):
        for field, own, points, size, words in tried():
            if len(own.words()) ** len(points) <= 700:
                right = set(words)
                for value in itertools.product(own.words(), repeat=len(points)):
                    self.assertIs(is_codeword(field, points, size, value), value in right)

    def test_polynomial_through_all_words(self):
        for kind, many in (((2, 2), 2), ((3, 2), 2), ((2, 3), 2), ((2, 3), 1)):
            field, own = Field(*kind), OWN[kind]
            points = independent(own, random.Random(54), many)
            for words in itertools.product(own.words(), repeat=many):
                polynomial = polynomial_through(field, points, words)
                self.assertLessEqual(len(polynomial), many)
                self.assertEqual(tuple(own.value(polynomial, point) for point in points), words)

    def test_values_of_any_kind(self):
        field, points = Field(2, 3), ((1, 0, 0), (0, 1, 0), (0, 0, 1))
        word = ((0, 1, 0), (0, 0, 1), (1, 0, 1))
        self.assertIs(is_codeword(field, points, 1, word), True)
        check_judge(self, is_codeword, [field, points, 1], [*spoiled(word), word[:2], (*word, (0, 0, 0)), (word,)])

    def test_too_many_coefficients(self):
        field = Field(3, 3)
        told(self, codeword, [field, POINTS, ((1, 0, 0),) * 3], errors.InvalidOperation)
        told(self, codeword, [field, POINTS, ((1, 0, 0),) * 20], errors.InvalidOperation)
        told(self, codeword, [field, POINTS, ((1, 0, 0),) * 21], errors.InvalidPolynomial)
        told(self, codeword, [field, (), ((1, 0, 0),) * 3], errors.InvalidCode)
        self.assertEqual(codeword(field, POINTS, ()), ((0, 0, 0), (0, 0, 0)))


class Distances(unittest.TestCase):
    def test_rank_distance(self):
        for kind in KINDS:
            field, own, chance = Field(*kind), OWN[kind], random.Random(55)
            for many in (0, 1, 2, 5, 20):
                one, other = random_words(chance, own.q, own.m, many), random_words(chance, own.q, own.m, many)
                wanted = own.rank([own.minus(a, b) for a, b in zip(one, other)])
                self.assertEqual(rank_distance(field, one, other), wanted)
                self.assertEqual(rank_distance(field, one, one), 0)

    def test_unlike_lengths(self):
        field = Field(3, 3)
        told(self, rank_distance, [field, POINTS, POINTS[:1]], errors.InvalidOperation)
        told(self, rank_distance, [field, (), POINTS], errors.InvalidOperation)
        told(self, rank_distance, [field, (), ((0, 0),)], errors.InvalidWord)

    def test_least_distance_and_how_many_have_each_rank(self):
        for field, own, points, size, words in tried():
            many = len(points)
            ranks = [own.rank(word) for word in words]
            self.assertEqual(rank_counts(field, many, size), tuple(ranks.count(rank) for rank in range(many + 1)))
            self.assertEqual(min(rank for rank in ranks if rank), many - size + 1)

    def test_pairs_of_codewords(self):
        for field, own, points, size, words in tried():
            if len(words) <= 64:
                least = min(
                    rank_distance(field, one, other) for one, other in itertools.combinations(words, 2)
                )
                self.assertEqual(least, len(points) - size + 1)

    def test_nearest_pair(self):
        for field, own, points, size, _ in codes():
            one, other = nearest_pair(field, points, size)
            self.assertIs(is_codeword(field, points, size, one), True)
            self.assertIs(is_codeword(field, points, size, other), True)
            distance = own.rank([own.minus(a, b) for a, b in zip(one, other)])
            self.assertEqual(distance, len(points) - size + 1)

    def test_counts_add_up(self):
        for kind in KINDS:
            field = Field(*kind)
            for many in range(1, kind[1] + 1):
                for size in range(1, many + 1):
                    counts = rank_counts(field, many, size)
                    self.assertEqual(len(counts), many + 1)
                    self.assertEqual(sum(counts), field.size ** size)
                    self.assertEqual(counts[1:many - size + 1], (0,) * (many - size))
                    self.assertTrue(all(count > 0 for count in counts[many - size + 1:]))


class Checks(unittest.TestCase):
    def test_syndromes(self):
        for field, own, points, size, chance in codes():
            many = len(points)
            checks = check_points(field, points, size)
            self.assertEqual(own.rank(checks), many)
            self.assertIs(is_check_points(field, points, size, checks), True)
            zeros = (own.zero,) * (many - size)
            word = codeword(field, points, own.random_polynomial(chance, size))
            self.assertEqual(syndromes(field, checks, size, word), zeros)
            words = random_words(chance, own.q, own.m, many)
            wanted = tuple(
                own.dot(words, [own.raised(check, turns) for check in checks]) for turns in range(many - size)
            )
            self.assertEqual(syndromes(field, checks, size, words), wanted)
            self.assertEqual(wanted == zeros, is_codeword(field, points, size, words))

    def test_codewords_are_just_those_without_syndromes(self):
        for field, own, points, size, words in tried():
            if len(own.words()) ** len(points) <= 700:
                right, checks = set(words), check_points(field, points, size)
                for value in itertools.product(own.words(), repeat=len(points)):
                    self.assertIs(not any(map(any, syndromes(field, checks, size, value))), value in right)

    def test_all_check_points(self):
        for kind, many, size in (((2, 2), 2, 1), ((2, 2), 2, 2), ((2, 3), 3, 1), ((2, 3), 3, 2), ((3, 2), 2, 1)):
            field, own = Field(*kind), OWN[kind]
            points = independent(own, random.Random(56), many)
            begun = [[own.raised(point, i) for point in points] for i in range(size)]
            right = 0
            for value in itertools.product(own.words(), repeat=many):
                checks = [[own.raised(word, j) for word in value] for j in range(many - size)]
                fits = own.rank(value) == many
                fits = fits and all(own.dot(row, check) == own.zero for row in begun for check in checks)
                self.assertIs(is_check_points(field, points, size, value), fits)
                right += fits
            if size < many:
                # They are those found, each times one word that is not nought.
                self.assertEqual(right, len(own.words()) - 1)

    def test_multiples_are_check_points_and_bent_ones_are_not(self):
        for field, own, points, size, chance in codes():
            checks = check_points(field, points, size)
            for word in random_words(chance, own.q, own.m, 3):
                value = tuple(own.times(word, check) for check in checks)
                self.assertIs(is_check_points(field, points, size, value), word != own.zero)
            if 1 < len(points) and size < len(points):
                bent = (own.plus(checks[0], checks[1]), *checks[1:])
                self.assertIs(is_check_points(field, points, size, bent), False)
                self.assertIs(is_check_points(field, points, size, (checks[1], *checks[1:])), False)

    def test_all_tuples_are_codewords_if_the_size_is_n(self):
        for field, own, points, size, chance in codes():
            if size == len(points):
                value = independent(own, chance, size)
                self.assertIs(is_check_points(field, points, size, value), True)
                self.assertEqual(syndromes(field, value, size, points), ())

    def test_values_of_any_kind(self):
        field, points = Field(3, 3), POINTS
        for size in (1, 2):
            right = check_points(field, points, size)
            values = [*spoiled(right), right[:1], (*right, (0, 0, 1)), (right,), (right[0], right[0])]
            check_judge(self, is_check_points, [field, points, size], values)

    def test_unlike_lengths(self):
        field = Field(3, 3)
        for words in ((), POINTS[:1], (*POINTS, (0, 0, 0))):
            told(self, syndromes, [field, POINTS, 1, words], errors.InvalidOperation)
            told(self, polynomial_through, [field, POINTS, words], errors.InvalidOperation)
        told(self, syndromes, [field, POINTS, 3, ()], errors.InvalidNumber, [3])


class WrongArguments(unittest.TestCase):
    def setUp(self):
        self.field = Field(3, 3)
        self.wrong_field = (errors.InvalidField, WRONG_FIELDS)
        self.points = (errors.InvalidCode, WRONG_POINTS)
        self.words = (errors.InvalidWord, WRONG_WORDS)
        self.size = (errors.InvalidNumber, [*junk(), 0, 3, 7, "1", (1,), [1]])

    def test_words(self):
        many = (errors.InvalidNumber, [*junk(), 0, 21, 22, "1", (1,), [1]])
        check_parameters(self, moore, [self.field, POINTS, 2], [self.wrong_field, self.words, many])
        check_parameters(self, are_independent, [self.field, POINTS], [self.wrong_field, self.words])
        check_parameters(self, rank_distance, [self.field, POINTS, POINTS], [self.wrong_field, self.words, self.words])
        check_parameters(self, polynomial_through, [self.field, POINTS, POINTS], [
            self.wrong_field, self.points, self.words,
        ])

    def test_codes(self):
        polynomial = ((1, 0, 1), (0, 2, 0))
        wrong = [*junk(), 0, *spoiled(polynomial), ((0, 0, 0),), ((1, 0),), ((3, 0, 0),), (1, 0, 0), (polynomial,)]
        check_parameters(self, codeword, [self.field, POINTS, polynomial], [
            self.wrong_field, self.points, (errors.InvalidPolynomial, wrong),
        ])
        for function in (nearest_pair, check_points):
            check_parameters(self, function, [self.field, POINTS, 1], [self.wrong_field, self.points, self.size])
        for function in (is_codeword, is_check_points):
            check_parameters(self, function, [self.field, POINTS, 1, 0], [
                self.wrong_field, self.points, self.size, None,
            ])
        check_parameters(self, syndromes, [self.field, POINTS, 1, POINTS], [
            self.wrong_field, self.points, self.size, self.words,
        ])

    def test_counts(self):
        many = (errors.InvalidNumber, [*junk(), 0, 4, 7, "1", (1,), [1]])
        check_parameters(self, rank_counts, [self.field, 2, 1], [self.wrong_field, many, self.size])
        told(self, rank_counts, [Field(2, 2), 3, 1], errors.InvalidNumber, [3])
        told(self, rank_counts, [Field(2, 6), 3, 4], errors.InvalidNumber, [4])


class NoneIsTrue(unittest.TestCase):
    """[4.6]"""

    def test_unlike_words_can_be_dependent(self):
        self.assertIs(are_independent(Field(2, 3), ((1, 1, 0), (0, 1, 1), (1, 0, 1))), False)

    def test_unlike_codewords_can_differ_at_more_places(self):
        field, points = Field(2, 3), ((1, 0, 0), (0, 1, 0), (0, 0, 1))
        word = codeword(field, points, ((0, 1, 0), (1, 1, 0)))
        self.assertEqual([rank_distance(field, word, ((0, 0, 0),) * 3), sum(map(any, word))], [2, 3])

    def test_points_need_not_be_their_own_check_points(self):
        field, points = Field(2, 3), ((1, 0, 0), (0, 1, 0), (0, 0, 1))
        self.assertIs(is_check_points(field, points, 1, points), False)
