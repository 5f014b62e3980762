"""Stage 1: words of fields."""

import random
import unittest

from rowsthrough import errors
from rowsthrough.base import fields
from rowsthrough.base.fields import (
    MOST_DEGREE, PRIMES, Field, inverse, is_free, is_word, minus, number_of, plus, power, raised, scaled, times, word_of,
)
from tests.helper import (
    Own, check_judge, check_parameters, junk, own_is_free, random_words, run_examples, spoiled, told, tuples, without,
)

EXAMPLES = """
>>> F, G = Field(3, 2), Field(2, 3)
>>> [F.size, F.polynomial, G.polynomial, F.zero, G.one, str(F), F == Field(3, 2), Field(5, 1).polynomial]
[9, (1, 0), (1, 0, 1), (0, 0), (1, 0, 0), 'field of 3 to the power 2', True, (0,)]
>>> [times(F, (0, 1), (0, 1)), inverse(F, (1, 1)), raised(F, (1, 1), 1), power(G, (0, 1, 0), 7), plus(F, (2, 1), (2, 2))]
[(2, 0), (2, 1), (1, 2), (1, 0, 0), (1, 0)]
>>> [number_of(F, (2, 1)), word_of(G, 6), is_word(F, (3, 0)), is_free(2, (1, 0)), is_free(3, (1, 0)), scaled(F, 2, (1, 2))]
[5, (0, 1, 1), False, False, True, (2, 1)]
>>> inverse(F, (0, 0))
raises InvalidOperation
"""

SMALL = [(2, 1), (2, 2), (2, 3), (2, 4), (2, 5), (2, 6), (3, 1), (3, 2), (3, 3), (3, 4), (5, 1), (5, 2), (5, 3), (7, 1),
         (7, 2), (11, 1), (11, 2), (13, 1), (13, 2)]
GREAT = [(3, 6), (5, 5), (7, 4), (11, 6), (13, 3), (13, 6)]
WRONG_BASES = [*junk(), 0, 1, 4, 6, 8, 9, 10, 12, 14, 15, 17, (2,), "2", [3]]
WRONG_FIELDS = [*without(junk(), Field), 0, 2, (3, 2), ()]


def wrong_words(word):
    return [*junk(), (), 0, word[:-1], (*word, 0), *spoiled(word), (*word[:-1], 13), (*word[:-1], -1), (word,)]


class Examples(unittest.TestCase):
    def test_examples(self):
        run_examples(self, EXAMPLES, dict(vars(fields)))

    def test_constants(self):
        self.assertEqual(PRIMES, (2, 3, 5, 7, 11, 13))
        self.assertEqual(MOST_DEGREE, 6)


class Free(unittest.TestCase):
    def test_which_are_free(self):
        for q, m in [*SMALL[:9], (5, 1), (5, 2), (5, 3), (7, 1), (7, 2), (11, 2), (13, 2)]:
            for lower in tuples(q, m):
                self.assertIs(is_free(q, lower), own_is_free(q, lower), (q, lower))

    def test_which_are_free_among_great_ones(self):
        chance = random.Random(11)
        for q, m in ((3, 6), (5, 4), (5, 6), (7, 5), (11, 4), (13, 4)):
            for _ in range(40):
                lower = tuple(chance.randrange(q) for _ in range(m))
                self.assertIs(is_free(q, lower), own_is_free(q, lower), (q, lower))

    def test_those_without_divisors_of_degree_one_alone_are_not_free(self):
        self.assertFalse(is_free(2, (1, 0, 1, 0)))
        self.assertFalse(is_free(3, (1, 0, 2, 0)))
        self.assertFalse(is_free(2, (1, 0, 1, 0, 1, 0)))

    def test_degree_one(self):
        for q in PRIMES:
            for number in range(q):
                self.assertTrue(is_free(q, (number,)))

    def test_least_free_one_for_each_base_and_degree(self):
        for q in PRIMES:
            for m in range(1, 7):
                self.assertEqual(Field(q, m).polynomial, Own(q, m).lower, (q, m))

    def test_wrong_arguments(self):
        lower = (1, 0, 1)
        wrong = [*junk(), (), (0,) * 7, 3, *spoiled(lower), (1, 0, 2), (1, 0, -1), (lower,)]
        check_parameters(self, is_free, [2, lower], [
            (errors.InvalidNumber, WRONG_BASES), (errors.InvalidOperation, wrong),
        ])


class Fields(unittest.TestCase):
    def test_properties(self):
        for q in PRIMES:
            for m in range(1, 7):
                field = Field(q, m)
                self.assertEqual((field.q, field.m, field.size), (q, m, q ** m))
                self.assertEqual(field.zero, (0,) * m)
                self.assertEqual(field.one, (1,) + (0,) * (m - 1))
                self.assertEqual(str(field), "field of " + str(q) + " to the power " + str(m))

    def test_equal(self):
        made = [(q, m, Field(q, m)) for q in PRIMES for m in range(1, 7)]
        for q, m, field in made:
            for p, n, other in made:
                self.assertIs(field == other, (q, m) == (p, n))
                self.assertIs(field != other, (q, m) != (p, n))
            self.assertTrue(field == Field(q, m))
            self.assertFalse(field != Field(q, m))

    def test_unlike_values_of_any_kind(self):
        for value in [*without(junk(), Field), 0, 4, (2, 2), str(Field(2, 2)), (Field(2, 2),)]:
            self.assertIs(Field(2, 2) == value, False)
            self.assertIs(Field(2, 2) != value, True)
            self.assertIs(value == Field(2, 2), False)

    def test_no_iteration(self):
        with self.assertRaises(TypeError):
            iter(Field(2, 3))
        with self.assertRaises(TypeError):
            list(Field(2, 3))
        with self.assertRaises(TypeError):
            (0, 0, 0) in Field(2, 3)

    def test_wrong_arguments(self):
        check_parameters(self, Field, [3, 2], [
            (errors.InvalidField, WRONG_BASES), (errors.InvalidField, [*junk(), 0, 7, 8, (2,), "2"]),
        ])


class Words(unittest.TestCase):
    def test_what_words_are(self):
        field = Field(3, 2)
        for word in tuples(3, 2):
            self.assertIs(is_word(field, word), True)
        check_judge(self, is_word, [field], wrong_words((1, 0)))
        check_judge(self, is_word, [field], [(0, 3), (3, 0), (-1, 0), (True, 0), (0, False), (0, 0, 0), (0,)])
        check_parameters(self, is_word, [field, (0, 1)], [(errors.InvalidField, WRONG_FIELDS), None])

    def test_numbers_there_and_back(self):
        for q, m in SMALL:
            field = Field(q, m)
            for number, digits in enumerate(tuples(q, m)):
                word = tuple(reversed(digits))
                self.assertEqual(number_of(field, word), number)
                self.assertEqual(word_of(field, number), word)

    def test_last_numbers(self):
        for q, m in GREAT:
            field = Field(q, m)
            self.assertEqual(word_of(field, q ** m - 1), (q - 1,) * m)
            self.assertEqual(number_of(field, (q - 1,) * m), q ** m - 1)
            told(self, word_of, [field, q ** m], errors.InvalidNumber, [q ** m])
            told(self, word_of, [field, -1], errors.InvalidNumber, [-1])

    def test_wrong_arguments(self):
        field = Field(3, 2)
        check_parameters(self, word_of, [field, 4], [
            (errors.InvalidField, WRONG_FIELDS), (errors.InvalidNumber, [*junk(), 9, 10, -2, (1, 0), "4", [4]]),
        ])
        check_parameters(self, number_of, [field, (1, 2)], [
            (errors.InvalidField, WRONG_FIELDS), (errors.InvalidWord, wrong_words((1, 2))),
        ])


class Arithmetic(unittest.TestCase):
    def check_pair(self, field, own, one, other):
        self.assertEqual(plus(field, one, other), own.plus(one, other))
        self.assertEqual(minus(field, one, other), own.minus(one, other))
        self.assertEqual(times(field, one, other), own.times(one, other))

    def test_all_pairs_in_small_fields(self):
        for q, m in ((2, 1), (2, 2), (2, 3), (2, 4), (3, 1), (3, 2), (3, 3), (5, 1), (5, 2), (7, 1), (11, 1), (13, 1)):
            field, own = Field(q, m), Own(q, m)
            for one in own.words():
                for other in own.words():
                    self.check_pair(field, own, one, other)

    def test_pairs_in_great_fields(self):
        chance = random.Random(12)
        for q, m in GREAT:
            field, own = Field(q, m), Own(q, m)
            words = [*random_words(chance, q, m, 12), (q - 1,) * m, own.zero, own.one]
            for one in words:
                for other in words:
                    self.check_pair(field, own, one, other)

    def test_degree_one(self):
        field = Field(13, 1)
        self.assertEqual(times(field, (5,), (8,)), (1,))
        self.assertEqual(inverse(field, (5,)), (8,))
        self.assertEqual(raised(field, (5,), 3), (5,))
        self.assertEqual(plus(field, (5,), (8,)), (0,))
        self.assertEqual(minus(field, (5,), (8,)), (10,))

    def test_inverses(self):
        for q, m in SMALL:
            field, own = Field(q, m), Own(q, m)
            for word in own.words():
                if word != own.zero:
                    found = inverse(field, word)
                    self.assertEqual(own.times(word, found), own.one)
                    self.assertEqual(found, power(field, word, q ** m - 2))

    def test_inverses_in_great_fields(self):
        chance = random.Random(13)
        for q, m in GREAT:
            field, own = Field(q, m), Own(q, m)
            for word in random_words(chance, q, m, 20):
                if word != own.zero:
                    self.assertEqual(inverse(field, word), own.inverse(word))

    def test_powers(self):
        numbers = [*range(20), 10 ** 9 + 7, 10 ** 30 + 57, 10 ** 60 - 1]
        for q, m in [(2, 3), (3, 2), (5, 1), *GREAT]:
            field, own = Field(q, m), Own(q, m)
            for word in (own.zero, own.one, (q - 1,) * m, (1,) * m):
                for number in numbers:
                    self.assertEqual(power(field, word, number), own.power(word, number))

    def test_power_nought_is_one_of_nought_too(self):
        for q, m in SMALL:
            self.assertEqual(power(Field(q, m), (0,) * m, 0), (1,) + (0,) * (m - 1))
            self.assertEqual(power(Field(q, m), (0,) * m, 5), (0,) * m)

    def test_scaled(self):
        for q, m in SMALL[:12]:
            field, own = Field(q, m), Own(q, m)
            for number in range(q):
                for word in own.words():
                    wanted = tuple(number * digit % q for digit in word)
                    self.assertEqual(scaled(field, number, word), wanted)
                    self.assertEqual(own.times((number,) + (0,) * (m - 1), word), wanted)


class Raising(unittest.TestCase):
    def test_raising_is_the_power_q(self):
        for q, m in SMALL:
            field, own = Field(q, m), Own(q, m)
            for word in own.words()[:200]:
                self.assertEqual(raised(field, word, 1), own.power(word, q))
                self.assertEqual(raised(field, word, 2), own.raised(word, 2))

    def test_turns(self):
        for q, m in [(2, 1), (2, 6), (3, 4), (5, 5), (13, 6)]:
            field, own = Field(q, m), Own(q, m)
            word = tuple((3 * place + 1) % q for place in range(m))
            wanted = word
            for turns in range(61):
                self.assertEqual(raised(field, word, turns), wanted)
                wanted = own.power(wanted, q)
            self.assertEqual(raised(field, word, 0), word)
            self.assertEqual(raised(field, word, m), word)
            told(self, raised, [field, word, 61], errors.InvalidNumber, [61])
            told(self, raised, [field, word, -1], errors.InvalidNumber, [-1])

    def test_raised_sums_and_multiples(self):
        for q, m in ((2, 4), (3, 3), (5, 2)):
            field, own = Field(q, m), Own(q, m)
            words = own.words()
            for one in words:
                for other in words:
                    total = plus(field, raised(field, one, 1), raised(field, other, 1))
                    self.assertEqual(raised(field, plus(field, one, other), 1), total)
                for number in range(q):
                    multiple = scaled(field, number, raised(field, one, 1))
                    self.assertEqual(raised(field, scaled(field, number, one), 1), multiple)

    def test_one_to_one(self):
        for q, m in SMALL:
            words = Own(q, m).words()
            self.assertEqual(len({raised(Field(q, m), word, 1) for word in words}), len(words))


class WrongArguments(unittest.TestCase):
    def test_two_words(self):
        field, word = Field(3, 2), (1, 2)
        wrong = (errors.InvalidWord, wrong_words(word))
        for function in (plus, minus, times):
            check_parameters(self, function, [field, word, (0, 1)], [(errors.InvalidField, WRONG_FIELDS), wrong, wrong])

    def test_one_word(self):
        field, word = Field(3, 2), (1, 2)
        wrong_field, wrong = (errors.InvalidField, WRONG_FIELDS), (errors.InvalidWord, wrong_words(word))
        check_parameters(self, inverse, [field, word], [wrong_field, wrong])
        check_parameters(self, power, [field, word, 3], [
            wrong_field, wrong, (errors.InvalidNumber, [*junk(), -2, "3", (3,), 10 ** 61]),
        ])
        check_parameters(self, raised, [field, word, 3], [
            wrong_field, wrong, (errors.InvalidNumber, [*junk(), 61, -2, 100, "3", (3,)]),
        ])
        check_parameters(self, scaled, [field, 2, word], [
            wrong_field, (errors.InvalidNumber, [*junk(), 3, 4, -2, "2", (2,)]), wrong,
        ])

    def test_nought_has_no_inverse_behind_all_others(self):
        for q, m in SMALL:
            told(self, inverse, [Field(q, m), (0,) * m], errors.InvalidOperation)
        told(self, inverse, [None, (0, 0)], errors.InvalidField)
        told(self, inverse, [Field(3, 2), (0, 0, 0)], errors.InvalidWord)


class NoneIsTrue(unittest.TestCase):
    """[1.5]"""

    def test_least_free_polynomial_does_not_end_with_one(self):
        self.assertEqual(Field(3, 2).polynomial[-1], 0)
        self.assertEqual(Field(13, 2).polynomial[-1], 3)

    def test_product_has_not_the_products_of_digits(self):
        self.assertNotEqual(times(Field(3, 2), (0, 1), (0, 1)), (0, 1))

    def test_word_raised_can_be_the_word(self):
        self.assertEqual(raised(Field(3, 2), (2, 0), 1), (2, 0))

    def test_inverse_can_have_the_number_of_the_word(self):
        self.assertEqual(number_of(Field(3, 2), inverse(Field(3, 2), (2, 0))), number_of(Field(3, 2), (2, 0)))
