"""Stage 8: link codes."""

import itertools
import random
import unittest

from rowsthrough import errors
from rowsthrough.base import fields
from rowsthrough.base.fields import Field
from rowsthrough.link import linkcodes
from rowsthrough.link.linkcodes import (
    MOST_SIZE, carried, had_from, is_had_from, is_link_code, sink_rank, sink_rows, vectors,
)
from rowsthrough.net import nets
from rowsthrough.net.nets import Net
from tests.helper import (
    Own, all_cuts, check_judge, check_parameters, drawn_nets, junk, own_carried, own_cut_links, own_into, own_rank,
    own_rows, own_sum, own_units, own_vectors, pairs_of, random_link_code, random_rows, random_words, run_examples,
    spoiled, told, tuples, wrong_bases, wrong_fields, wrong_link_codes, wrong_nets, wrong_points, wrong_sizes,
)

EXAMPLES = """
>>> TWIN = Net(6, ((0, 1), (0, 2), (1, 3), (1, 5), (2, 3), (2, 4), (3, 4), (3, 5)))
>>> CODE = ((1, 0), (0, 1), (1,), (1,), (1,), (1,), (1, 1), (1, 1))
>>> [is_link_code(TWIN, 2, 2, CODE), vectors(TWIN, 2, 2, CODE)[6], sink_rows(TWIN, 2, 2, CODE, 4), sink_rank(TWIN, 2, 2, CODE, 5), sink_rank(TWIN, 2, 2, CODE, 1)]
[True, (1, 1), ((0, 1), (1, 1)), 2, 1]
>>> [carried(TWIN, Field(2, 3), 2, CODE, ((1, 0, 1), (0, 1, 1)))[6], had_from(TWIN, 2, 2, CODE, 4, (1, 0)), had_from(TWIN, 2, 2, CODE, 1, (0, 1))]
[(1, 1, 0), ('sum', (1, 1)), ('barred', (0, 1))]
>>> vectors(TWIN, 2, 2, CODE[:7])
raises InvalidCode
"""

TWIN = Net(6, ((0, 1), (0, 2), (1, 3), (1, 5), (2, 3), (2, 4), (3, 4), (3, 5)))
CODE = ((1, 0), (0, 1), (1,), (1,), (1,), (1,), (1, 1), (1, 1))
TWIN3 = ((1, 2, 0), (0, 1, 2), (1,), (2,), (2,), (0,), (1, 2), (2, 1))
PARALLEL = Net(3, ((0, 1), (0, 1), (0, 2), (1, 2), (1, 2), (1, 2)))
BARE = Net(4, ())
# No link leads to point 1 or 2.
APART = Net(5, ((0, 3), (1, 2), (1, 3), (3, 4), (3, 4)))
BASES = (2, 3, 5, 7, 11, 13)


def questions(seed, bases=BASES, sizes=range(1, 7)):
    chance = random.Random(seed)
    for net in (TWIN, PARALLEL, BARE, APART, *drawn_nets(seed)):
        for q, n in zip(bases, chance.sample(sorted(sizes) * 6, 6)):
            yield net, q, n, random_link_code(chance, net, q, n, chance.choice((0, 4)))


class Examples(unittest.TestCase):
    def test_examples(self):
        run_examples(self, EXAMPLES, {**vars(nets), **vars(fields), **vars(linkcodes)})

    def test_constant(self):
        self.assertEqual(MOST_SIZE, 6)


class LinkCodes(unittest.TestCase):
    def test_right_ones(self):
        seen = set()
        for net, q, n, code in questions(82):
            self.assertIs(is_link_code(net, q, n, code), True)
            seen.add(n)
        self.assertEqual(seen, {1, 2, 3, 4, 5, 6})
        for n in range(1, 7):
            self.assertIs(is_link_code(BARE, 2, n, ()), True)
            self.assertIs(is_link_code(APART, 2, n, ((1,) * n, (), (), (1, 0), (0, 1))), True)

    def test_all_small_ones_tried(self):
        net = Net(3, ((0, 1), (1, 2)))
        numbers = [digits for many in range(3) for digits in tuples(3, many)]
        for n in (1, 2):
            for value in itertools.product(numbers, repeat=2):
                right = [len(value[0]), len(value[1])] == [n, 1]
                self.assertIs(is_link_code(net, 3, n, value), right)
                self.assertIs(is_link_code(net, 2, n, value), right and 2 not in value[0] + value[1])

    def test_other_sizes_and_bases(self):
        for n in range(1, 7):
            self.assertIs(is_link_code(TWIN, 2, n, CODE), n == 2)
            self.assertIs(is_link_code(TWIN, 3, n, TWIN3), n == 3)
        self.assertIs(is_link_code(TWIN, 2, 3, TWIN3), False)
        self.assertIs(is_link_code(TWIN, 5, 3, TWIN3), True)
        self.assertIs(is_link_code(APART, 2, 1, ((1,), (), (1,), (1, 0), (0, 1))), False)
        self.assertIs(is_link_code(APART, 2, 1, ((1,), (), (), (1,), (0, 1))), False)

    def test_values_of_any_kind(self):
        check_judge(self, is_link_code, [TWIN, 3, 3], wrong_link_codes(TWIN, 3, TWIN3))
        check_judge(self, is_link_code, [TWIN, 2, 2], wrong_link_codes(TWIN, 2, CODE))

    def test_wrong_arguments(self):
        wrong = [(errors.InvalidNet, wrong_nets()), (errors.InvalidNumber, wrong_bases()), (errors.InvalidNumber, wrong_sizes())]
        check_parameters(self, is_link_code, [TWIN, 2, 2, 0], [*wrong, None])
        code = (errors.InvalidCode, wrong_link_codes(TWIN, 3, TWIN3))
        check_parameters(self, vectors, [TWIN, 3, 3, TWIN3], [*wrong, code])


class Vectors(unittest.TestCase):
    def test_own_sums(self):
        for net, q, n, code in questions(83):
            self.assertEqual(vectors(net, q, n, code), own_vectors(net, q, n, code))

    def test_links_from_the_source_and_from_points_that_nothing_leads_to(self):
        code = ((1, 2, 0), (), (), (2, 1), (0, 1))
        zero = (0, 0, 0)
        self.assertEqual(vectors(APART, 3, 3, code), ((1, 2, 0), zero, zero, (2, 1, 0), zero))
        self.assertEqual(vectors(BARE, 13, 6, ()), ())

    def test_large_sums(self):
        net = Net(3, ((0, 1),) * 13 + ((1, 2),) * 7)
        code = ((12, 11, 12, 12, 10, 12),) * 13 + ((12,) * 13, (11, 12) * 6 + (12,), *((12,) * 13,) * 5)
        self.assertEqual(vectors(net, 13, 6, code), own_vectors(net, 13, 6, code))

    def test_rows_and_ranks(self):
        ranks = set()
        for net, q, n, code in questions(84):
            for sink in range(1, net.points):
                rows = own_rows(net, q, n, code, sink)
                self.assertEqual(sink_rows(net, q, n, code, sink), rows)
                rank = sink_rank(net, q, n, code, sink)
                self.assertEqual(rank, own_rank(q, rows))
                ranks.add(rank)
                if net.points <= 6:
                    self.assertTrue(all(rank <= len(own_cut_links(net, cut)) for cut in all_cuts(net, sink)))
        self.assertTrue({0, 1, 2, 3, 4, 5} <= ranks)
        many = Net(2, ((0, 1),) * 8)
        self.assertEqual(sink_rank(many, 7, 6, ((1, 2, 3, 4, 5, 6),) * 2 + own_units(6), 1), 6)

    def test_other_sources(self):
        """[8.5]"""
        undone = 0
        for net, q, n, code in questions(85, BASES, (1, 2, 3)):
            square = random_rows(random.Random(86 + n), q, n, n)
            changed = tuple(
                own_sum(q, numbers, square, n) if link[0] == 0 else numbers for link, numbers in zip(net.links, code)
            )
            wanted = tuple(own_sum(q, vector, square, n) for vector in vectors(net, q, n, code))
            self.assertEqual(vectors(net, q, n, changed), wanted)
            for sink in range(1, net.points):
                one, other = sink_rank(net, q, n, changed, sink), sink_rank(net, q, n, code, sink)
                self.assertLessEqual(one, other)
                if own_rank(q, square) == n:
                    self.assertEqual(one, other)
                    undone += 1
        self.assertGreater(undone, 20)

    def test_wrong_arguments(self):
        wrong = [
            (errors.InvalidNet, wrong_nets()), (errors.InvalidNumber, wrong_bases()), (errors.InvalidNumber, wrong_sizes()),
            (errors.InvalidCode, wrong_link_codes(TWIN, 2, CODE)[::3]), (errors.InvalidNumber, wrong_points(TWIN)),
        ]
        for function in (sink_rows, sink_rank):
            check_parameters(self, function, [TWIN, 2, 2, CODE, 5], wrong)


class Carried(unittest.TestCase):
    def test_own_words(self):
        chance = random.Random(87)
        for net, q, n, code in questions(88):
            for m in range(1, 7):
                field, words = Field(q, m), random_words(chance, q, m, n)
                found = carried(net, field, n, code, words)
                self.assertEqual(found, own_carried(net, q, m, code, words))
                # The same multiples, whatever the field is.
                multiples = tuple(own_sum(q, vector, words, m) for vector in vectors(net, q, n, code))
                self.assertEqual(found, multiples)

    def test_sums_by_the_arithmetic_of_the_field(self):
        own, field, chance = Own(3, 2), Field(3, 2), random.Random(89)
        for _ in range(20):
            words = random_words(chance, 3, 2, 3)
            found = carried(TWIN, field, 3, TWIN3, words)
            for word, vector in zip(found, vectors(TWIN, 3, 3, TWIN3)):
                self.assertEqual(word, own.dot([(number, 0) for number in vector], words))

    def test_wrong_arguments(self):
        words = ((1, 0, 1), (0, 1, 1))
        wrong = [
            *junk(), 0, 1, (), *spoiled(words), words[:1], (*words, words[0]), ((1, 0), (0, 1)), ((2, 0, 1), (0, 1, 1)),
            ((1, 0, -1), (0, 1, 1)), (words,),
        ]
        check_parameters(self, carried, [TWIN, Field(2, 3), 2, CODE, words], [
            (errors.InvalidNet, wrong_nets()), (errors.InvalidField, wrong_fields()), (errors.InvalidNumber, wrong_sizes()),
            (errors.InvalidCode, wrong_link_codes(TWIN, 2, CODE)[::3]), (errors.InvalidWord, wrong),
        ])
        # The code is asked for the base of the field.
        told(self, carried, [TWIN, Field(2, 3), 3, TWIN3, None], errors.InvalidCode)
        self.assertEqual(len(carried(TWIN, Field(3, 1), 3, TWIN3, ((1,), (2,), (0,)))), 8)


class Had(unittest.TestCase):
    def check(self, net, q, n, code, sink, wanted, kinds):
        rows = own_rows(net, q, n, code, sink)
        can = own_rank(q, [*rows, wanted]) == own_rank(q, rows)
        kind, numbers = had_from(net, q, n, code, sink, wanted)
        self.assertEqual(kind, "sum" if can else "barred")
        self.assertIs(type(numbers), tuple)
        self.assertTrue(all(type(number) is int and 0 <= number < q for number in numbers))
        if can:
            self.assertEqual(len(numbers), len(rows))
            self.assertEqual(own_sum(q, numbers, rows, n), wanted)
        else:
            self.assertEqual(len(numbers), n)
            self.assertFalse(any(sum(a * b for a, b in zip(row, numbers)) % q for row in rows))
            self.assertNotEqual(sum(a * b for a, b in zip(wanted, numbers)) % q, 0)
        self.assertIs(is_had_from(net, q, n, code, sink, wanted, (kind, numbers)), True)
        kinds.add((kind, bool(rows), any(wanted)))

    def test_drawn_ones(self):
        kinds, chance = set(), random.Random(90)
        for net, q, n, code in questions(91):
            for sink in range(1, net.points):
                wanted = [(0,) * n, *own_units(n), *random_rows(chance, q, 2, n)]
                for numbers in wanted:
                    self.check(net, q, n, code, sink, numbers, kinds)
        pairs = {("sum", True, True), ("sum", True, False), ("sum", False, False), ("barred", True, True)}
        self.assertEqual(kinds, pairs | {("barred", False, True)})

    def test_all_numbers_judged(self):
        seen = set()
        for net, q, n, code in (
            (TWIN, 2, 2, CODE), (TWIN, 3, 3, TWIN3), (APART, 3, 2, ((1, 2), (), (), (1, 0), (2, 1))),
            (PARALLEL, 2, 2, ((1, 0), (1, 0), (0, 0), (1, 0), (0, 1), (1, 1))), (BARE, 2, 2, ()),
        ):
            for sink in range(1, net.points):
                rows = own_rows(net, q, n, code, sink)
                for wanted in tuples(q, n):
                    for numbers in tuples(q, len(rows)):
                        right = own_sum(q, numbers, rows, n) == wanted
                        self.assertIs(is_had_from(net, q, n, code, sink, wanted, ("sum", numbers)), right)
                        seen.add(("sum", right))
                    for numbers in tuples(q, n):
                        right = not any(sum(a * b for a, b in zip(row, numbers)) % q for row in rows)
                        right = right and sum(a * b for a, b in zip(wanted, numbers)) % q != 0
                        self.assertIs(is_had_from(net, q, n, code, sink, wanted, ("barred", numbers)), right)
                        seen.add(("barred", right))
        self.assertEqual(len(seen), 4)

    def test_points_into_which_nothing_leads(self):
        code = ((1, 2), (), (), (1, 0), (2, 1))
        self.assertEqual(sink_rows(APART, 3, 2, code, 1), ())
        self.assertEqual(sink_rank(APART, 3, 2, code, 1), 0)
        self.assertEqual(had_from(APART, 3, 2, code, 1, (0, 0)), ("sum", ()))
        self.assertEqual(had_from(APART, 3, 2, code, 1, (0, 2))[0], "barred")
        self.assertEqual(had_from(APART, 3, 2, code, 2, (1, 2))[0], "barred")
        self.assertIs(is_had_from(APART, 3, 2, code, 1, (0, 0), ("sum", ())), True)
        self.assertIs(is_had_from(APART, 3, 2, code, 1, (0, 1), ("sum", ())), False)

    def test_values_of_any_kind(self):
        values = [
            *[("sum", value) for value in spoiled((1, 1))], *pairs_of("barred", "none"), ("sum", (1, 1, 0)), ("sum", (1,)),
            ("sum", (1, 1), 0), (1, 1), ["sum", (1, 1)], ("Sum", (1, 1)), ("sum", (1, -1)), ("sum", (1, 3)), ("barred", (1, 1)),
            ("sum", [1, 1]), ("sum", (True, True)), ("barred", (0, 0)), ("solution", (1, 1)), ("sum", ((1,), (1,))),
        ]
        self.assertIs(is_had_from(TWIN, 2, 2, CODE, 4, (1, 0), ("sum", (1, 1))), True)
        check_judge(self, is_had_from, [TWIN, 2, 2, CODE, 4, (1, 0)], values)
        values = [
            *[("barred", value) for value in spoiled((0, 1))], *pairs_of("sum", "none"), ("barred", (0, 1, 0)), ("barred", (1,)),
            ("barred", (False, True)), ("sum", (0, 1)), ("barred", (0, 1), ()), ("barred", (0, 3)), ("barred", (0, -1)),
            ("barred", [0, 1]), ("barred", (0, 0)), ("barred", (1, 1)), ("barred", ()), ("sum", ()),
        ]
        self.assertIs(is_had_from(TWIN, 2, 2, CODE, 1, (0, 1), ("barred", (0, 1))), True)
        check_judge(self, is_had_from, [TWIN, 2, 2, CODE, 1, (0, 1)], values)

    def test_any_multiple_of_a_bar_is_taken(self):
        code = ((1, 0), (0, 1), (1,), (1,), (1,), (1,), (1, 1), (1, 1))
        for number in range(1, 5):
            self.assertIs(is_had_from(TWIN, 5, 2, code, 1, (0, 1), ("barred", (0, number))), True)
            self.assertIs(is_had_from(TWIN, 5, 2, code, 1, (3, 2), ("barred", (0, number))), True)
        self.assertIs(is_had_from(TWIN, 5, 2, code, 1, (3, 0), ("barred", (0, 1))), False)

    def test_wrong_arguments(self):
        wanted = (1, 0)
        wrong = [
            (errors.InvalidNet, wrong_nets()), (errors.InvalidNumber, wrong_bases()), (errors.InvalidNumber, wrong_sizes()),
            (errors.InvalidCode, wrong_link_codes(TWIN, 2, CODE)[::3]), (errors.InvalidNumber, wrong_points(TWIN)),
            (errors.InvalidMatrix, [
                *junk(), 0, 1, (), *spoiled(wanted), (1,), (1, 0, 0), (2, 0), (0, -1), (wanted,), ((1,), (0,)), "10",
            ]),
        ]
        check_parameters(self, had_from, [TWIN, 2, 2, CODE, 4, wanted], wrong)
        check_parameters(self, is_had_from, [TWIN, 2, 2, CODE, 4, wanted, 0], [*wrong, None])


class NoneIsTrue(unittest.TestCase):
    """[8.6]"""

    def test_unlike_link_codes_with_equal_vectors(self):
        net = Net(3, ((0, 1), (0, 1), (1, 2)))
        self.assertEqual(vectors(net, 2, 1, ((1,), (1,), (1, 0))), vectors(net, 2, 1, ((1,), (1,), (0, 1))))

    def test_numbers_that_are_not_all_zero_and_nothing_is_carried(self):
        net = Net(3, ((0, 1), (0, 1), (1, 2)))
        self.assertEqual(vectors(net, 2, 1, ((1,), (1,), (1, 1)))[2], (0,))
        self.assertEqual(vectors(net, 3, 1, ((0,), (1,), (1, 0)))[2], (0,))

    def test_less_rank_than_a_point_behind(self):
        self.assertEqual([own_into(TWIN, 1), sink_rank(TWIN, 2, 2, CODE, 1), sink_rank(TWIN, 2, 2, CODE, 5)], [(0,), 1, 2])
