"""Stage 10: wrong and silent links."""

import itertools
import random
import unittest

from rowsthrough import errors
from rowsthrough.base import fields
from rowsthrough.base.fields import Field
from rowsthrough.bent import wrong
from rowsthrough.bent.wrong import (
    added_words, as_wrong, bent_words, is_silent, is_wrong, silent_vectors, transfer,
)
from rowsthrough.link.linkcodes import carried, vectors
from rowsthrough.net import nets
from rowsthrough.net.nets import Net
from tests.helper import (
    Own, check_judge, check_parameters, drawn_nets, junk, own_carried, own_rank, own_sum, own_vectors,
    random_link_code, random_words, run_examples, spoiled, subsets, told, wrong_bases, wrong_fields, wrong_link_codes,
    wrong_lots, wrong_nets, wrong_sizes, wrong_wrongs,
)

EXAMPLES = """
>>> LINE, MIX, F4 = Net(3, ((0, 1), (0, 1), (1, 2), (1, 2))), ((1, 0), (0, 1), (1, 1), (0, 1)), Field(2, 2)
>>> GIVEN = ((1, 0), (0, 1))
>>> [bent_words(LINE, F4, 2, MIX, GIVEN, ((1, (1, 1)),), ()), bent_words(LINE, F4, 2, MIX, GIVEN, (), (0,)), added_words(LINE, F4, 2, MIX, ((0, (0, 1)), (2, (0, 1))), ())]
[((1, 0), (1, 0), (0, 0), (1, 0)), ((0, 0), (0, 1), (0, 1), (0, 1)), ((0, 1), (0, 0), (0, 0), (0, 0))]
>>> [transfer(LINE, 2, 2, MIX, ()), transfer(LINE, 2, 2, MIX, (2,))[1], silent_vectors(LINE, 2, 2, MIX, (0,))]
[((1, 0, 1, 0), (0, 1, 1, 1), (0, 0, 1, 0), (0, 0, 0, 1)), (0, 1, 0, 1), ((0, 0), (0, 1), (0, 1), (0, 1))]
>>> [as_wrong(LINE, F4, 2, MIX, GIVEN, (0, 2)), is_wrong(LINE, F4, ((1, (1, 1)), (0, (1, 1)))), is_silent(LINE, (0, 3))]
[((0, (1, 0)), (2, (0, 1))), False, True]
>>> bent_words(LINE, F4, 2, MIX, GIVEN, ((0, (0, 1)),), (0,))
raises InvalidOperation
"""

LINE, MIX, F4 = Net(3, ((0, 1), (0, 1), (1, 2), (1, 2))), ((1, 0), (0, 1), (1, 1), (0, 1)), Field(2, 2)
GIVEN = ((1, 0), (0, 1))
TWIN = Net(6, ((0, 1), (0, 2), (1, 3), (1, 5), (2, 3), (2, 4), (3, 4), (3, 5)))
BARE = Net(4, ())
KINDS = ((2, 1), (2, 6), (3, 2), (5, 3), (7, 1), (13, 6))
WRONG = ((1, (1, 1)), (2, (0, 1)))


def questions(seed):
    """Nets, fields, sizes, link codes, source words, wrong links and silent ones."""
    chance = random.Random(seed)
    for net in (LINE, TWIN, BARE, *drawn_nets(seed)):
        for q, m in KINDS:
            n, many = chance.randrange(1, 7), len(net.links)
            code = random_link_code(chance, net, q, n, chance.choice((0, 0, 5)))
            for _ in range(2):
                bent = chance.sample(range(many), min(many, chance.randrange(6)))
                number = chance.randrange(len(bent) + 1)
                pairs = tuple((link, random_words(chance, q, m, 1)[0]) for link in sorted(bent[:number]))
                yield net, q, m, n, code, random_words(chance, q, m, n), pairs, tuple(sorted(bent[number:]))


class Examples(unittest.TestCase):
    def test_examples(self):
        run_examples(self, EXAMPLES, {**vars(nets), **vars(fields), **vars(wrong)})


class Judges(unittest.TestCase):
    def test_right_ones(self):
        words = ((0, 0), (1, 0), (0, 1), (1, 1))
        for lot in subsets(range(4)):
            self.assertIs(is_silent(LINE, lot), True)
            for some in itertools.product(words, repeat=len(lot)):
                self.assertIs(is_wrong(LINE, F4, tuple(zip(lot, some))), True)
        self.assertIs(is_wrong(BARE, F4, ()), True)
        self.assertIs(is_silent(BARE, ()), True)

    def test_values_of_any_kind(self):
        self.assertIs(is_wrong(LINE, F4, WRONG), True)
        for value in wrong_wrongs(LINE, F4, WRONG):
            self.assertIs(is_wrong(LINE, F4, value), False, value)
        self.assertIs(is_wrong(LINE, Field(2, 3), WRONG), False)
        self.assertIs(is_wrong(LINE, Field(3, 2), WRONG), True)
        self.assertIs(is_wrong(BARE, F4, WRONG), False)
        for value in wrong_lots(LINE, (0, 3)):
            self.assertIs(is_silent(LINE, value), False, value)
        self.assertIs(is_silent(BARE, (0,)), False)

    def test_wrong_arguments(self):
        wrong_net = (errors.InvalidNet, wrong_nets())
        check_parameters(self, is_wrong, [LINE, F4, 0], [wrong_net, (errors.InvalidField, wrong_fields()), None])
        check_parameters(self, is_silent, [LINE, 0], [wrong_net, None])


class Bent(unittest.TestCase):
    def test_own_sums_link_by_link(self):
        seen = set()
        for net, q, m, n, code, words, pairs, silent in questions(102):
            found = bent_words(net, Field(q, m), n, code, words, pairs, silent)
            self.assertEqual(found, own_carried(net, q, m, code, words, pairs, silent))
            seen.add((bool(pairs), bool(silent)))
            if not pairs and not silent:
                self.assertEqual(found, carried(net, Field(q, m), n, code, words))
        self.assertEqual(len(seen), 4)

    def test_wrong_links_with_the_zero_word(self):
        for net, q, m, n, code, words, pairs, silent in questions(103):
            field = Field(q, m)
            zeros = tuple((link, field.zero) for link, _ in pairs)
            self.assertEqual(
                bent_words(net, field, n, code, words, zeros, silent), bent_words(net, field, n, code, words, (), silent),
            )

    def test_silence_goes_on_downstream(self):
        code = ((1, 0), (0, 1), (1,), (1,), (1,), (1,), (1, 1), (1, 1))
        found = bent_words(TWIN, F4, 2, code, GIVEN, (), (0,))
        self.assertEqual(found, ((0, 0), (0, 1), (0, 0), (0, 0), (0, 1), (0, 1), (0, 1), (0, 1)))
        found = bent_words(TWIN, F4, 2, code, GIVEN, ((1, (1, 1)),), (4,))
        self.assertEqual(found, ((1, 0), (1, 0), (1, 0), (1, 0), (0, 0), (1, 0), (1, 0), (1, 0)))

    def test_what_wrong_links_add(self):
        """[10.3], [10.4]"""
        ranks = set()
        for net, q, m, n, code, words, pairs, silent in questions(104):
            field, own = Field(q, m), Own(q, m)
            added = added_words(net, field, n, code, pairs, silent)
            self.assertEqual(added, own_carried(net, q, m, code, ((0,) * m,) * n, pairs, silent))
            plain = bent_words(net, field, n, code, words, (), silent)
            bent = bent_words(net, field, n, code, words, pairs, silent)
            self.assertEqual(bent, tuple(own.plus(one, other) for one, other in zip(plain, added)))
            single = [added_words(net, field, n, code, (pair,), silent) for pair in pairs]
            self.assertEqual(added, tuple(own.total(some[link] for some in single) for link in range(len(net.links))))
            rank = own_rank(q, added)
            self.assertLessEqual(rank, len(pairs))
            ranks.add((len(pairs), rank))
        self.assertTrue({(0, 0), (1, 1), (2, 2), (3, 3), (2, 1)} <= ranks)

    def test_no_link_is_wrong_and_silent(self):
        for lot in subsets(range(4)):
            for silent in subsets(range(4)):
                pairs = tuple((link, (0, 0)) for link in lot)
                calls = [(bent_words, [LINE, F4, 2, MIX, GIVEN, pairs, silent]), (added_words, [LINE, F4, 2, MIX, pairs, silent])]
                for function, arguments in calls:
                    if set(lot) & set(silent):
                        told(self, function, arguments, errors.InvalidOperation)
                    else:
                        self.assertEqual(len(function(*arguments)), 4)

    def test_wrong_arguments(self):
        silent = (0, 3)
        wrong_code = [
            (errors.InvalidNet, wrong_nets()), (errors.InvalidField, wrong_fields()), (errors.InvalidNumber, wrong_sizes()),
            (errors.InvalidCode, wrong_link_codes(LINE, 2, MIX)),
        ]
        words = [
            (errors.InvalidWord, [*junk(), 0, (), *spoiled(GIVEN), GIVEN[:1], (*GIVEN, (0, 0)), ((2, 0), (0, 1)), (GIVEN,)]),
        ]
        pairs = [(errors.InvalidLinks, wrong_wrongs(LINE, F4, WRONG))]
        lots = [(errors.InvalidLinks, wrong_lots(LINE, silent))]
        check_parameters(self, bent_words, [LINE, F4, 2, MIX, GIVEN, WRONG, silent], [*wrong_code, *words, *pairs, *lots])
        check_parameters(self, added_words, [LINE, F4, 2, MIX, WRONG, silent], [*wrong_code, *pairs, *lots])
        check_parameters(self, as_wrong, [LINE, F4, 2, MIX, GIVEN, silent], [*wrong_code, *words, *lots])
        # The wrong kind is told ahead of the link that is in both.
        told(self, bent_words, [LINE, F4, 2, MIX, GIVEN, ((0, (0, 1)),), (0, 4)], errors.InvalidLinks)
        told(self, bent_words, [LINE, F4, 2, MIX, GIVEN, ((0, (0, 1, 1)),), (0,)], errors.InvalidLinks)
        told(self, added_words, [LINE, F4, 2, MIX, ((0, (0, 1)),), [0]], errors.InvalidLinks)


class Transfer(unittest.TestCase):
    def test_own_numbers(self):
        """By words of degree 1: one is added on one link, and nothing comes from the source."""
        for net, q, _, n, code, _, _, silent in questions(105):
            many = len(net.links)
            rows = []
            for link in range(many):
                added = () if link in silent else ((link, (1,)),)
                rows.append(tuple(word[0] for word in own_carried(net, q, 1, code, ((0,),) * n, added, silent)))
            found = transfer(net, q, n, code, silent)
            self.assertEqual(found, tuple(rows))
            for link, row in enumerate(found):
                self.assertEqual(row[link], 0 if link in silent else 1)
                self.assertFalse(any(row[:link]))
                self.assertFalse(any(row[further] for further in silent))
            self.assertEqual(silent_vectors(net, q, n, code, silent), own_vectors(net, q, n, code, silent))

    def test_carried_by_silent_vectors_and_transfer_rows(self):
        for net, q, m, n, code, words, pairs, silent in questions(106):
            field, own = Field(q, m), Own(q, m)
            rows, flat = transfer(net, q, n, code, silent), silent_vectors(net, q, n, code, silent)
            bent = bent_words(net, field, n, code, words, pairs, silent)
            for link, word in enumerate(bent):
                more = own_sum(q, [rows[further][link] for further, _ in pairs], [added for _, added in pairs], m)
                self.assertEqual(word, own.plus(own_sum(q, flat[link], words, m), more))

    def test_rank_of_what_silence_takes(self):
        ranks = set()
        for net, q, _, n, code, _, _, silent in questions(107):
            one, other = vectors(net, q, n, code), silent_vectors(net, q, n, code, silent)
            rank = own_rank(q, [tuple(a - b for a, b in zip(*pair)) for pair in zip(one, other)])
            self.assertLessEqual(rank, len(silent))
            ranks.add((len(silent), rank))
        self.assertTrue({(0, 0), (1, 1), (2, 2), (3, 3), (2, 1)} <= ranks)

    def test_without_silent_links(self):
        for net, q, _, n, code, _, _, _ in questions(108):
            self.assertEqual(silent_vectors(net, q, n, code, ()), vectors(net, q, n, code))
        self.assertEqual([transfer(BARE, 2, 1, (), ()), silent_vectors(BARE, 2, 1, (), ())], [(), ()])

    def test_wrong_arguments(self):
        silent = (0, 3)
        wrong_code = [
            (errors.InvalidNet, wrong_nets()), (errors.InvalidNumber, wrong_bases()), (errors.InvalidNumber, wrong_sizes()),
            (errors.InvalidCode, wrong_link_codes(LINE, 2, MIX)), (errors.InvalidLinks, wrong_lots(LINE, silent)),
        ]
        for function in (transfer, silent_vectors):
            check_parameters(self, function, [LINE, 2, 2, MIX, silent], wrong_code)


class AsWrong(unittest.TestCase):
    def test_the_same_is_carried(self):
        numbers = set()
        for net, q, m, n, code, words, _, silent in questions(109):
            field = Field(q, m)
            found = as_wrong(net, field, n, code, words, silent)
            self.assertEqual(tuple(link for link, _ in found), silent)
            self.assertIs(is_wrong(net, field, found), True)
            self.assertEqual(
                bent_words(net, field, n, code, words, found, ()), bent_words(net, field, n, code, words, (), silent),
            )
            numbers.add(len(silent))
        self.assertEqual(numbers, {0, 1, 2, 3, 4, 5})

    def test_silent_links_behind_one_another(self):
        line = Net(4, ((0, 1), (1, 2), (2, 3)))
        code, field = ((1,), (2,), (2,)), Field(5, 1)
        self.assertEqual(as_wrong(line, field, 1, code, ((1,),), (0, 1, 2)), ((0, (4,)), (1, (0,)), (2, (0,))))
        self.assertEqual(as_wrong(line, field, 1, code, ((1,),), (1, 2)), ((1, (3,)), (2, (0,))))
        self.assertEqual(as_wrong(line, field, 1, code, ((1,),), (2,)), ((2, (1,)),))
        self.assertEqual(as_wrong(line, field, 1, code, ((1,),), ()), ())


class NoneIsTrue(unittest.TestCase):
    """[10.6]"""

    def test_wrong_word_that_is_not_heard_behind(self):
        net, code = Net(4, ((0, 1), (1, 2), (1, 2), (2, 3))), ((1,), (1,), (1,), (1, 1))
        self.assertEqual(added_words(net, F4, 1, code, ((0, (0, 1)),), ()), ((0, 1), (0, 1), (0, 1), (0, 0)))

    def test_two_wrong_links_add_words_of_rank_one(self):
        added = added_words(LINE, F4, 2, MIX, ((0, (0, 1)), (1, (0, 1))), ())
        self.assertEqual(own_rank(2, added), 1)

    def test_silent_link_that_changes_nothing_behind_it(self):
        code = ((1, 0), (0, 1), (0, 1), (0, 1))
        one, other = bent_words(LINE, F4, 2, code, GIVEN, (), ()), bent_words(LINE, F4, 2, code, GIVEN, (), (0,))
        self.assertEqual([one[1:], one[0] == other[0]], [other[1:], False])
