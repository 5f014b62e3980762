"""Stage 5: decoding by ranks."""

import itertools
import random
import unittest

from rowsthrough import errors
from rowsthrough.base import fields
from rowsthrough.base.fields import Field
from rowsthrough.base.matrices import base_rank
from rowsthrough.code import decoding
from rowsthrough.code.decoding import (
    decoded, helpers, is_helpers, is_near_answer, is_two_near, near_answer, two_near, unique_most,
)
from rowsthrough.code.polynomials import left_divided, poly_product, poly_sum, zero_on
from rowsthrough.code.rankcodes import rank_distance
from tests.helper import (
    OwnPolynomials, check_judge, check_parameters, junk, pairs_of, random_rows, random_words, run_examples, spoiled,
    told, without,
)

EXAMPLES = """
>>> F8, SENT = Field(2, 3), ((0, 1, 0), (0, 0, 1), (1, 0, 1))
>>> P4 = ((1, 0, 0), (0, 1, 0), (0, 0, 1))
>>> BENT = ((1, 0, 0), (1, 1, 1), (0, 1, 1))
>>> [unique_most(F8, P4, 1), decoded(F8, P4, 1, SENT, 1), decoded(F8, P4, 1, BENT, 1), is_helpers(F8, P4, 1, BENT, 1, (((1, 1, 0), (1, 0, 0)), ()))]
[1, ('found', ((0, 1, 0),), 0), ('found', ((0, 1, 0),), 1), False]
>>> [near_answer(F8, P4, 1, BENT, 1), near_answer(F8, P4, 1, ((1, 0, 0), (1, 0, 0), (0, 1, 0)), 0)[0], near_answer(F8, P4, 1, ((1, 1, 0), (1, 0, 0), (0, 0, 0)), 1)[0], is_two_near(F8, P4, 2, 1, (((0, 0, 0), (0, 0, 0), (0, 1, 0)), (), ((0, 1, 0),)))]
[('near', ((0, 1, 0),)), 'apart', 'far', False]
"""

KINDS = ((2, 1), (2, 2), (2, 3), (2, 4), (3, 1), (3, 2), (5, 2), (2, 5), (2, 6), (3, 4), (13, 6))
OWN = {kind: OwnPolynomials(*kind) for kind in KINDS}
F8, P4 = Field(2, 3), ((1, 0, 0), (0, 1, 0), (0, 0, 1))
BENT = ((1, 0, 0), (1, 1, 1), (0, 1, 1))
APART = ((1, 0, 0), (1, 0, 0), (0, 1, 0))
WRONG_FIELDS = [*without(junk(), Field), 0, 2, (3, 2), ()]


def points_of(own, chance):
    """Points of several kinds: independent, dependent, equal ones, nought, many."""
    yield random_words(chance, own.q, own.m, 1)
    yield (own.zero,) * 2
    yield random_words(chance, own.q, own.m, own.m)
    units = tuple(tuple(int(i == j) for j in range(own.m)) for i in range(own.m))
    yield units
    yield (*units, own.zero, units[0], own.total(units))
    yield (*units, *random_words(chance, own.q, own.m, 20))[:20]


def right_near(own, points, size, received, most):
    """All near polynomials, all being tried."""
    return [f for f in set(own.polynomials(size)) if own.wrong_rank(points, received, f) <= most]


def are_own_helpers(own, points, size, received, most, first, second):
    if len(first) > most + 1 or len(second) > most + size or not (first or second):
        return False
    return [own.value(first, word) for word in received] == [own.value(second, point) for point in points]


def asked_matrix(own, points, size, received, most):
    """The matrix of what helpers ask."""
    return tuple(
        (*(own.raised(word, i) for i in range(most + 1)),
         *(own.minus(own.zero, own.raised(point, i)) for i in range(most + size)))
        for word, point in zip(received, points)
    )


def wrong_words(own, chance, many, rank):
    """Words of a rank of at most so much."""
    begun = random_words(chance, own.q, own.m, rank)
    rows = random_rows(chance, own.q, many, rank)
    return tuple(
        own.total(tuple(c * digit % own.q for digit in word) for c, word in zip(row, begun)) for row in rows
    )


def sent_words(own, points, polynomial, wrong):
    return tuple(own.plus(own.value(polynomial, point), word) for point, word in zip(points, wrong))


def questions(kinds, sizes=(1, 2, 3), mosts=(0, 1, 2), single=True):
    """Fields, points, sizes, received words and what is wrong at most."""
    for kind in kinds:
        own, chance = OWN[kind], random.Random(60 + kind[1])
        for points in points_of(own, chance):
            for size, most in itertools.product(sizes, mosts):
                if (2 * most <= own.rank(points) - size) == single:
                    for rank in {0, most, most + 1, own.m}:
                        wrong = wrong_words(own, chance, len(points), rank)
                        received = sent_words(own, points, own.random_polynomial(chance, size), wrong)
                        yield own, points, size, received, most


class Examples(unittest.TestCase):
    def test_examples(self):
        run_examples(self, EXAMPLES, {**vars(fields), **vars(decoding)})


class Near(unittest.TestCase):
    def test_all_polynomials_tried(self):
        seen = set()
        for own, points, size, received, most in questions(((2, 1), (2, 2), (2, 3), (3, 1), (3, 2), (5, 2))):
            if len(own.words()) ** size <= 700:
                near = right_near(own, points, size, received, most)
                self.assertLessEqual(len(near), 1)
                self.check_decoded(own, points, size, received, most, near)
                self.check_answer(own, points, size, received, most, near)
                seen.add(near_answer(Field(own.q, own.m), points, size, received, most)[0])
        self.assertEqual(seen, {"near", "apart"})

    def check_decoded(self, own, points, size, received, most, near):
        wanted = ("found", near[0], own.wrong_rank(points, received, near[0])) if near else ("none",)
        self.assertEqual(decoded(Field(own.q, own.m), points, size, received, most), wanted)

    def check_answer(self, own, points, size, received, most, near):
        arguments = [Field(own.q, own.m), points, size, received, most]
        value = near_answer(*arguments)
        self.assertIs(is_near_answer(*arguments, value), True)
        self.assertEqual(value[0] == "near", bool(near))
        for f in own.polynomials(1)[:9]:
            self.assertIs(is_near_answer(*arguments, ("near", f)), f in near)
        if near:
            self.assertEqual(value, ("near", near[0]))
        elif value[0] == "far":
            self.check_far(own, points, size, received, most, value)
        else:
            self.check_apart(own, points, size, received, most, value)

    def check_far(self, own, points, size, received, most, value):
        self.assertEqual((value[0], len(value)), ("far", 3))
        self.assertTrue(are_own_helpers(own, points, size, received, most, value[1], value[2]))
        self.assertIs(is_helpers(Field(own.q, own.m), points, size, received, most, value[1:]), True)

    def check_apart(self, own, points, size, received, most, value):
        self.assertEqual((value[0], len(value)), ("apart", 2))
        matrix = asked_matrix(own, points, size, received, most)
        self.assertEqual(own.product(value[1], matrix), own.unit(2 * most + 1 + size))
        self.assertIsNone(helpers(Field(own.q, own.m), points, size, received, most))

    def test_all_received_words_tried(self):
        seen = set()
        for kind, points, size, most in (
            ((2, 2), ((1, 0), (0, 1)), 1, 0), ((2, 2), ((1, 0), (0, 1)), 2, 0), ((2, 3), P4, 1, 1), ((2, 3), P4, 3, 0),
            ((2, 2), ((1, 0), (1, 1), (0, 1)), 1, 0), ((3, 1), ((1,), (2,)), 1, 0), ((3, 2), ((1, 1), (0, 2)), 2, 0),
        ):
            field, own = Field(*kind), OWN[kind]
            balls = {}
            for f in set(own.polynomials(size)):
                sent = tuple(own.value(f, point) for point in points)
                for received in itertools.product(own.words(), repeat=len(points)):
                    if own.rank([own.minus(a, b) for a, b in zip(received, sent)]) <= most:
                        balls.setdefault(received, []).append(f)
            for received in itertools.product(own.words(), repeat=len(points)):
                near = balls.get(received, [])
                self.assertLessEqual(len(near), 1)
                self.check_decoded(own, points, size, received, most, near)
                self.check_answer(own, points, size, received, most, near)
                seen.add(near_answer(field, points, size, received, most)[0])
        self.assertEqual(seen, {"near", "far", "apart"})

    def test_great_fields(self):
        for kind in ((2, 5), (2, 6), (3, 4), (13, 6)):
            field, own, chance = Field(*kind), OWN[kind], random.Random(61)
            units = tuple(tuple(int(i == j) for j in range(own.m)) for i in range(own.m))
            for many in (own.m, own.m + 3, 20):
                points = (*units, *random_words(chance, own.q, own.m, 20))[:many]
                for size in range(1, own.m + 1):
                    most = unique_most(field, points, size)
                    self.assertEqual(most, (own.m - size) // 2)
                    for rank in range(most + 1):
                        wrong = wrong_words(own, chance, many, rank)
                        polynomial = own.random_polynomial(chance, size)
                        received = sent_words(own, points, polynomial, wrong)
                        wanted = ("found", polynomial, own.rank(wrong))
                        self.assertEqual(decoded(field, points, size, received, most), wanted)
                        answer = near_answer(field, points, size, received, most)
                        self.assertEqual(answer, ("near", polynomial))
                    far = random_words(chance, own.q, own.m, many)
                    answer = near_answer(field, points, size, far, most)
                    self.assertIs(is_near_answer(field, points, size, far, most, answer), True)
                    self.assertEqual(decoded(field, points, size, far, most)[0] == "found", answer[0] == "near")


def widened(answer):
    """Rows that undo a matrix, with a further zero in each one: there is no point for it."""
    if answer[0] != "apart":
        return []
    return [("apart", tuple((*row, (0, 0, 0)) for row in answer[1]))]


class Judge(unittest.TestCase):
    def test_all_helpers_are_taken_where_nothing_is_near(self):
        for size, most, received in (
            (1, 1, ((1, 1, 0), (1, 0, 0), (0, 0, 0))), (1, 1, BENT), (2, 0, BENT), (3, 0, BENT), (1, 0, BENT),
            (1, 0, ((1, 0, 0), (1, 0, 0), (0, 1, 0))),
        ):
            own, pairs = OWN[2, 3], 0
            near = right_near(own, P4, size, received, most)
            for first in set(own.polynomials(most + 1)):
                for second in set(own.polynomials(most + size)):
                    fits = are_own_helpers(own, P4, size, received, most, first, second)
                    self.assertIs(is_helpers(F8, P4, size, received, most, (first, second)), fits)
                    told_far = ("far", first, second)
                    self.assertIs(is_near_answer(F8, P4, size, received, most, told_far), fits and not near)
                    pairs += fits
                    if fits and near:
                        self.assertEqual(second, own.behind(first, near[0]))
            self.assertEqual(bool(pairs), helpers(F8, P4, size, received, most) is not None)

    def test_just_near_polynomials_are_taken(self):
        own = OWN[2, 3]
        for received in ((BENT), ((0, 0, 0),) * 3, ((1, 1, 0), (1, 0, 0), (0, 0, 0))):
            for size, most in ((1, 0), (1, 1), (2, 0), (3, 0)):
                near = right_near(own, P4, size, received, most)
                for f in set(own.polynomials(min(size + 1, 3))):
                    self.assertIs(is_near_answer(F8, P4, size, received, most, ("near", f)), f in near)

    def test_all_undoing_rows_are_taken(self):
        own = OWN[2, 2]
        field, points, size = Field(2, 2), ((1, 0), (0, 1), (1, 1)), 1
        for received in (((1, 0), (1, 0), (0, 1)), ((1, 0), (0, 1), (0, 0)), ((1, 0), (0, 1), (1, 1))):
            matrix, right = asked_matrix(own, points, size, received, 0), 0
            rows = list(itertools.product(own.words(), repeat=3))
            for value in itertools.product(rows, repeat=2):
                fits = own.product(value, matrix) == own.unit(2)
                self.assertIs(is_near_answer(field, points, size, received, 0, ("apart", value)), fits)
                right += fits
            self.assertEqual(bool(right), near_answer(field, points, size, received, 0)[0] == "apart")

    def test_values_of_any_kind(self):
        apart, far = ((1, 0, 0), (1, 0, 0), (0, 1, 0)), ((1, 1, 0), (1, 0, 0), (0, 0, 0))
        for received, most in ((BENT, 1), (apart, 0), (far, 1)):
            arguments = [F8, P4, 1, received, most]
            right = near_answer(*arguments)
            values = [
                *spoiled(right), *pairs_of("near", "apart", "far", "found", 1, None), right[1:], (right,), list(right),
                (*right, ()), (*right[:-1], (*right[-1], (0, 0, 0))), *widened(right), ("far", 0, 0), ("far", (), ()),
                ("far", ((0, 0, 0),), ()),
                ("far", None, ()), ("far", [], ()), ("far", (), ((1, 0, 0),)), ("far", ((1, 0, 0),), ((1, 1, 1), (1, 0, 0))),
                ("apart", ()), ("apart", (((1, 0, 0),) * 3,) * 2), ("none",), ("near",), ("far", ()), ("near", ((1, 1, 1),)),
            ]
            values = [value for value in values if value not in (right, ("near", ()))]
            check_judge(self, is_near_answer, arguments, values)

    def test_helpers_of_any_kind(self):
        for received, most in ((BENT, 1), (APART, 1)):
            arguments = [F8, P4, 1, received, most]
            first, second = helpers(*arguments)
            values = [
                *spoiled((first, second)), (first,), (first, second, second), ((), ()), ("far", first, second), (0, 0),
                [first, second], (first, None), (None, second), (first, "x"), (second, ((1, 0, 0),) * 3),
            ]
            check_judge(self, is_helpers, arguments, values)

    def test_no_value_is_helpers_where_there_are_none(self):
        for received, most in ((APART, 0), (((1, 1, 0), (1, 0, 0), (0, 0, 0)), 0)):
            arguments = [F8, P4, 1, received, most]
            self.assertIsNone(helpers(*arguments))
            values = [
                ("none",), (None,), (None, None), ((), ()), (((1, 0, 0),), ()), ((), ((1, 0, 0),)),
                (((1, 0, 0),), ((1, 0, 0),)), "None",
            ]
            check_judge(self, is_helpers, arguments, values)


class Helpers(unittest.TestCase):
    def check_helpers(self, own, points, size, received, most):
        arguments = [Field(own.q, own.m), points, size, received, most]
        found = helpers(*arguments)
        matrix = asked_matrix(own, points, size, received, most)
        full = len(own.echelon(matrix)) == 2 * most + 1 + size
        self.assertEqual(found is None, full)
        # Helpers are a pair, also where there are none.
        self.assertIs(is_helpers(*arguments, None), False)
        if found is not None:
            self.assertEqual(len(found), 2)
            self.assertTrue(are_own_helpers(own, points, size, received, most, *found))
            self.assertIs(is_helpers(*arguments, found), True)
        return full

    def test_where_one_can_be_near(self):
        seen = set()
        for question in questions(((2, 1), (2, 2), (2, 3), (3, 2), (2, 5), (2, 6)), (1, 2, 3, 6), (0, 1, 2)):
            seen.add(self.check_helpers(*question))
        self.assertEqual(seen, {True, False})

    def test_where_several_can_be_near(self):
        seen = set()
        for question in questions(((2, 1), (2, 2), (2, 3), (3, 2), (2, 5)), (1, 2, 6), (0, 1, 2, 6), False):
            seen.add(self.check_helpers(*question))
        self.assertIn(False, seen)

    def test_helpers_are_there_if_something_is_near(self):
        for single in (True, False):
            for own, points, size, received, most in questions(((2, 2), (2, 3), (3, 2)), (1, 2), (0, 1, 2), single):
                for f in right_near(own, points, size, received, most):
                    wrong = [own.minus(a, own.value(f, point)) for a, point in zip(received, points)]
                    field = Field(own.q, own.m)
                    first = zero_on(field, tuple(wrong))
                    pair = (first, poly_product(field, first, f))
                    self.assertIs(is_helpers(field, points, size, received, most, pair), True)

    def test_none_though_several_can_be_near(self):
        for kind, size, most in (((2, 3), 1, 2), ((2, 3), 2, 1), ((3, 2), 1, 1), ((2, 4), 2, 2)):
            field, own = Field(*kind), OWN[kind]
            units = tuple(tuple(int(i == j) for j in range(own.m)) for i in range(own.m))
            zeros = (own.zero,) * own.m
            points, received = (*units, *zeros), (*zeros, *units)
            self.assertGreater(2 * most, own.rank(points) - size)
            self.assertIsNone(helpers(field, points, size, received, most))
            self.assertTrue(self.check_helpers(own, points, size, received, most))
            # With as many coefficients as words have digits, and one more, N can be zero everywhere.
            self.assertFalse(self.check_helpers(own, points, own.m + 1 - most, received, most))

    def test_helpers_with_too_many_coefficients(self):
        own = OWN[2, 3]
        for rank in range(4):
            received = (*P4[:rank], *((0, 0, 0),) * (3 - rank))
            first = zero_on(F8, received)
            for points in (P4, received):
                for size, most in itertools.product((1, 2, 3), (0, 1, 2, 3)):
                    # The first pair is zero at the received words alone, the last one at the points alone.
                    for pair in ((first, ()), (first, zero_on(F8, points)), ((), zero_on(F8, points))):
                        fits = are_own_helpers(own, points, size, received, most, *pair)
                        self.assertIs(is_helpers(F8, points, size, received, most, pair), fits)


class OneOrTwo(unittest.TestCase):
    def test_unique_most(self):
        for kind in KINDS:
            field, own, chance = Field(*kind), OWN[kind], random.Random(63)
            for points in points_of(own, chance):
                for size in range(1, 7):
                    right = [most for most in range(7) if 2 * most <= own.rank(points) - size]
                    self.assertEqual(unique_most(field, points, size), max(right) if right else None)

    def check_triple(self, own, points, size, most, value):
        received, one, other = value
        self.assertNotEqual(one, other)
        self.assertEqual(len(received), len(points))
        for f in (one, other):
            self.assertLessEqual(len(f), size)
            self.assertEqual(own.trimmed(f), f)
            self.assertLessEqual(own.wrong_rank(points, received, f), most)

    def test_two_near(self):
        for kind in KINDS:
            field, own, chance = Field(*kind), OWN[kind], random.Random(64)
            for points in points_of(own, chance):
                for size, most in itertools.product(range(1, 7), range(7)):
                    if 2 * most > own.rank(points) - size:
                        value = two_near(field, points, size, most)
                        self.check_triple(own, points, size, most, value)
                        self.assertIs(is_two_near(field, points, size, most, value), True)
                    else:
                        told(self, two_near, [field, points, size, most], errors.InvalidOperation)

    def test_all_triples_are_judged(self):
        own, field = OWN[2, 2], Field(2, 2)
        for points, size, most in (
            (((1, 0), (0, 1)), 1, 0), (((1, 0), (0, 1)), 1, 1), (((1, 0), (1, 0)), 2, 0), (((0, 0), (1, 1)), 1, 1),
        ):
            polynomials = sorted(set(own.polynomials(size)))
            for received in itertools.product(own.words(), repeat=2):
                near = [f for f in polynomials if own.wrong_rank(points, received, f) <= most]
                for one, other in itertools.product(polynomials, repeat=2):
                    fits = one != other and one in near and other in near
                    self.assertIs(is_two_near(field, points, size, most, (received, one, other)), fits)

    def test_values_of_any_kind(self):
        arguments = [F8, P4, 2, 1]
        right = two_near(*arguments)
        values = [
            *spoiled(right), right[:2], (*right, right[1]), list(right), (right[0], right[2], right[2]), right[::-1],
            (right[0][:2], right[1], right[2]), (right[0], right[1], ((0, 0, 0),)), (right[0], None, right[2]),
            (right[0], 0, right[2]), (0, 0, 0), (right[0], ((1, 0, 0),) * 3, right[1]), ("near", *right),
        ]
        check_judge(self, is_two_near, arguments, values)
        self.assertIs(is_two_near(F8, P4, 2, 1, (right[0], right[2], right[1])), True)

    def test_judged_where_one_can_be_near(self):
        for value in ((((0, 0, 0),) * 3, (), ((1, 0, 0),)), 0, None, (((0, 0, 0),) * 3, (), ())):
            self.assertIs(is_two_near(F8, P4, 1, 1, value), False)


class LedOn(unittest.TestCase):
    def test_led_on_by_matrices(self):
        for kind in ((2, 2), (2, 3), (3, 2), (2, 4)):
            field, own, chance = Field(*kind), OWN[kind], random.Random(65)
            units = tuple(tuple(int(i == j) for j in range(own.m)) for i in range(own.m))
            for size, turn in itertools.product((1, 2), range(12)):
                points = (*units, *random_words(chance, own.q, own.m, 1))
                most = max((own.m - size) // 2, 0)
                polynomial = own.random_polynomial(chance, size)
                wrong = wrong_words(own, chance, len(points), most + turn % 2)
                received = sent_words(own, points, polynomial, wrong)
                matrix = random_rows(chance, own.q, len(points), len(points))
                moved = [
                    tuple(
                        own.total(tuple(c * digit % own.q for digit in word) for c, word in zip(row, words))
                        for row in matrix
                    ) for words in (points, received)
                ]
                near = right_near(own, points, size, received, most) if own.q ** own.m < 10 else [polynomial][turn % 2:]
                further = [f for f in near if own.wrong_rank(moved[0], moved[1], f) <= most]
                self.assertEqual(further, near)
                if base_rank(own.q, matrix) == len(points):
                    self.assertEqual(
                        decoded(field, points, size, received, most), decoded(field, moved[0], size, moved[1], most),
                    )


class WrongArguments(unittest.TestCase):
    def setUp(self):
        self.field, self.points, self.received = Field(3, 2), ((1, 0), (0, 1), (1, 1)), ((2, 0), (0, 2), (0, 0))
        wrong = [*junk(), 0, *spoiled(self.points), ((3, 0),), ((1,),), ((1, 0, 0),), (1, 0), (self.points,)]
        self.wrong = [
            (errors.InvalidField, WRONG_FIELDS), (errors.InvalidCode, [*wrong, (), ((1, 0),) * 21]),
            (errors.InvalidNumber, [*junk(), 0, 7, 8, "1", (1,), [1]]),
            (errors.InvalidWord, [*wrong, (), self.points[:2], (*self.points, (0, 0)), ((1, 0),) * 21]),
            (errors.InvalidNumber, [*junk(), 7, 8, "0", (0,), [0]]),
        ]

    def test_questions(self):
        right = [self.field, self.points, 2, self.received, 0]
        for function in (decoded, near_answer, helpers):
            check_parameters(self, function, right, self.wrong)
        for function in (is_near_answer, is_helpers):
            check_parameters(self, function, [*right, 0], [*self.wrong, None])
        self.assertEqual(decoded(*right)[0], "none")
        self.assertEqual(decoded(self.field, ((1, 0),) * 20, 1, ((2, 0),) * 20, 0), ("found", ((2, 0),), 0))

    def test_without_received_words(self):
        check_parameters(self, unique_most, [self.field, self.points, 1], self.wrong[:3])
        wrong = [*self.wrong[:3], self.wrong[4]]
        check_parameters(self, two_near, [self.field, self.points, 2, 1], wrong)
        check_parameters(self, is_two_near, [self.field, self.points, 2, 1, 0], [*wrong, None])

    def test_too_much_wrong(self):
        for size, most in ((1, 1), (2, 1), (3, 0), (6, 6), (1, 6)):
            for function in (decoded, near_answer):
                told(self, function, [self.field, self.points, size, self.received, most], errors.InvalidOperation)
            arguments = [self.field, self.points, size, self.received, most, 0]
            told(self, is_near_answer, arguments, errors.InvalidOperation)
            helpers(*arguments[:-1])
            is_helpers(*arguments)
        told(self, decoded, [self.field, self.points, 6, self.received[:2], 6], errors.InvalidWord)
        told(self, decoded, [self.field, self.points, 6, self.received, 7], errors.InvalidNumber, [7])
        told(self, two_near, [self.field, self.points, 2, 0], errors.InvalidOperation)
        told(self, two_near, [self.field, self.points, 0, 0], errors.InvalidNumber, [0])


class NoneIsTrue(unittest.TestCase):
    """[5.6]"""

    def test_more_wrong_places_than_most_can_be_mended(self):
        own = OWN[2, 3]
        found = decoded(F8, P4, 1, BENT, 1)
        self.assertEqual(found, ("found", ((0, 1, 0),), 1))
        sent = tuple(own.value(found[1], point) for point in P4)
        self.assertEqual(sum(one != other for one, other in zip(sent, BENT)), 3)
        self.assertEqual(rank_distance(F8, sent, BENT), 1)

    def test_helpers_though_nothing_is_near(self):
        received = ((1, 1, 0), (1, 0, 0), (0, 0, 0))
        self.assertEqual(decoded(F8, P4, 1, received, 1), ("none",))
        self.assertIsNotNone(helpers(F8, P4, 1, received, 1))

    def test_helpers_by_several_near_polynomials(self):
        received, one, other = two_near(F8, P4, 2, 1)
        pairs = []
        for f in (one, other):
            wrong = tuple(OWN[2, 3].minus(a, OWN[2, 3].value(f, point)) for a, point in zip(received, P4))
            first = zero_on(F8, wrong)
            pairs.append((first, poly_product(F8, first, f)))
            self.assertIs(is_helpers(F8, P4, 2, received, 1, pairs[-1]), True)
        parts = [left_divided(F8, second, first) for first, second in pairs]
        self.assertEqual(parts, [(one, ()), (other, ())])
        both = (poly_sum(F8, pairs[0][0], pairs[1][0]), poly_sum(F8, pairs[0][1], pairs[1][1]))
        self.assertIs(is_helpers(F8, P4, 2, received, 1, both), True)
