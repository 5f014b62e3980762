"""Stage 12: what is hidden."""

import itertools
import math
import random
import unittest

from rowsthrough import errors
from rowsthrough.base import fields
from rowsthrough.base.fields import Field
from rowsthrough.bent.telling import does_tell
from rowsthrough.hide import hiding as module
from rowsthrough.hide.hiding import (
    MOST_CHOICES, does_hide, hiders_or_leak, hiding, is_hiders_or_leak, is_hiding, most_hidden, other_drawn, shares,
    tapped_rows,
)
from rowsthrough.net import nets
from rowsthrough.net.nets import Net
from tests.helper import (
    check_judge, check_parameters, drawn_nets, junk, own_carried, own_field, own_hides, own_lots, own_of, own_rank,
    own_shares, own_source, own_sum, own_tapped, own_vectors, pairs_of, random_code, random_words, run_examples,
    spoiled, subsets, told, wrong_codes, wrong_lots, wrong_nets, wrong_numbers,
)

EXAMPLES = """
>>> F4, TWO = Field(2, 2), Net(2, ((0, 1), (0, 1)))
>>> SHARED = (F4, ((1, 0), (0, 1)), (((1, 0), (0, 0)), ((1, 0), (1, 0))), 1)
>>> [tapped_rows(TWO, SHARED, (0,)), hiders_or_leak(TWO, SHARED, (0,)), hiders_or_leak(TWO, SHARED, (0, 1))[0]]
[((((1, 0),),), (((1, 0),),)), ('hides', (((1, 0),),)), 'leak']
>>> [does_hide(TWO, SHARED, 1), does_hide(TWO, SHARED, 2), most_hidden(TWO, SHARED), is_hiding(TWO, SHARED, 2, ("leak", (0, 1), ((0, 1), (0, 1))))]
[True, False, 1, True]
>>> [other_drawn(TWO, SHARED, (0,), ((1, 1),), ((0, 1),), ((1, 0),)), shares(TWO, SHARED, (1,), ((1, 1),))]
[((0, 0),), {((0, 0),): 1, ((0, 1),): 1, ((1, 0),): 1, ((1, 1),): 1}]
>>> other_drawn(TWO, SHARED, (0, 1), ((1, 1),), ((0, 1),), ((1, 0),))
raises Refused(('leak',))
"""

F4, TWO = Field(2, 2), Net(2, ((0, 1), (0, 1)))
SHARED = (F4, ((1, 0), (0, 1)), (((1, 0), (0, 0)), ((1, 0), (1, 0))), 1)
# The message is hidden from each two of the links, by two drawn words.
FOUR = Net(2, ((0, 1),) * 4)
SPLIT = (
    Field(5, 1), ((1, 1, 1), (1, 2, 4), (1, 3, 4), (1, 4, 1)), (((1,), (0,), (0,)), ((0,), (1,), (0,)), ((0,), (0,), (1,))), 1,
)
TWIN = Net(6, ((0, 1), (0, 2), (1, 3), (1, 5), (2, 3), (2, 4), (3, 4), (3, 5)))
MIXING = ((1, 0), (0, 1), (1,), (1,), (1,), (1,), (1, 1), (1, 1))
DRAWN = (Field(2, 2), MIXING, (((0, 1), (1, 1)), ((1, 0), (1, 1))), 1)
OPEN = (Field(2, 1), ((1,), (1,)), (((1,),),), 1)
BARE = Net(4, ())


def are_own_hiders(net, code, lot, hiders):
    own, (message, drawn) = own_of(code), own_tapped(net, code, lot)
    if len(hiders) != len(message) or any(len(row) != len(drawn) for row in hiders):
        return False
    columns = [[row[place] for row in drawn] for place in range(len(lot))]
    made = tuple(tuple(own.dot(row, column) for column in columns) for row in hiders)
    return made == message


def is_own_leak(net, code, lot, combination):
    own, (message, drawn) = own_of(code), own_tapped(net, code, lot)
    if any(own.dot(row, combination) != own.zero for row in drawn):
        return False
    return any(own.dot(row, combination) != own.zero for row in message)


def questions(seed, most_links=9):
    chance = random.Random(seed)
    for net in (TWO, FOUR, TWIN, BARE, *drawn_nets(seed, most_links, 7)):
        for q, m in ((2, 1), (2, 3), (3, 2), (5, 1), (13, 2)):
            many = chance.randrange(1, 6)
            code = random_code(chance, net, q, m, chance.randrange(1, 6), many, chance.randrange(1, min(3, many + 1)), 3)
            yield net, code


def small_questions(seed):
    """Codes for which all drawn words can be tried."""
    chance = random.Random(seed)
    for net in (TWO, FOUR, TWIN, *drawn_nets(seed, 6, 5)):
        for q, m, many in ((2, 1, 4), (2, 2, 3), (3, 1, 3), (2, 3, 2), (5, 1, 2), (2, 1, 1)):
            yield net, random_code(chance, net, q, m, chance.randrange(1, 4), many, chance.randrange(1, min(3, many + 1)), 4)


def some_lots(chance, net):
    many = len(net.links)
    yield ()
    yield tuple(range(many))
    for number in (1, 2, 3):
        if number <= many:
            yield tuple(sorted(chance.sample(range(many), number)))


class Examples(unittest.TestCase):
    def test_examples(self):
        run_examples(self, EXAMPLES, {**vars(nets), **vars(fields), **vars(module)})

    def test_constant(self):
        self.assertEqual(MOST_CHOICES, 20000)


class Tapped(unittest.TestCase):
    def test_own_sums(self):
        chance = random.Random(131)
        for net, code in questions(132):
            own, many = own_of(code), len(net.links)
            for lot in some_lots(chance, net):
                message, drawn = tapped_rows(net, code, lot)
                self.assertEqual((message, drawn), own_tapped(net, code, lot))
                # All words together: the sum of the tapped rows, each times its word.
                words = random_words(chance, own.q, own.m, len(code[2]))
                source = own_source(own, code, words, ())
                carried = own_carried(net, own.q, own.m, code[1], source)
                columns = [[row[place] for row in message + drawn] for place in range(len(lot))]
                self.assertEqual([carried[link] for link in lot], [own.dot(column, words) for column in columns])
            self.assertEqual(len(tapped_rows(net, code, tuple(range(many)))[0]), code[3])

    def test_by_vectors(self):
        for net, code in questions(133):
            own, n = own_of(code), len(code[2][0])
            found = own_vectors(net, own.q, n, code[1])
            lot = tuple(range(len(net.links)))
            rows = tuple(tuple(own_sum(own.q, found[link], row, own.m) for link in lot) for row in code[2])
            self.assertEqual(tapped_rows(net, code, lot), (rows[:code[3]], rows[code[3]:]))

    def test_wrong_arguments(self):
        check_parameters(self, tapped_rows, [TWIN, DRAWN, (1, 4)], [
            (errors.InvalidNet, wrong_nets()), (errors.InvalidCode, wrong_codes(TWIN, DRAWN)),
            (errors.InvalidLinks, wrong_lots(TWIN, (1, 4))),
        ])


class OneLot(unittest.TestCase):
    def check(self, net, code, lot):
        answer = hiders_or_leak(net, code, lot)
        due = own_hides(net, code, lot)
        self.assertEqual((answer[0], len(answer)), ("hides" if due else "leak", 2))
        if due:
            self.assertTrue(are_own_hiders(net, code, lot, answer[1]))
        else:
            self.assertEqual(len(answer[1]), len(lot))
            self.assertTrue(is_own_leak(net, code, lot, answer[1]))
        self.assertIs(is_hiders_or_leak(net, code, lot, answer), True)
        return answer[0]

    def test_which_one_is_due(self):
        seen, chance = set(), random.Random(134)
        for net, code in questions(135):
            for lot in some_lots(chance, net):
                seen.add((self.check(net, code, lot), min(len(lot), 4), len(code[2]) > code[3]))
        for number in range(1, 5):
            for drawn in (True, False):
                self.assertIn(("leak", number, drawn), seen)
            self.assertIn(("hides", number, True), seen)

    def test_empty_lot(self):
        for net, code in questions(136):
            self.assertEqual(self.check(net, code, ()), "hides")
            rows = tuple((code[0].zero,) * (len(code[2]) - code[3]) for _ in range(code[3]))
            self.assertIs(is_hiders_or_leak(net, code, (), ("hides", rows)), True)
            self.assertIs(is_hiders_or_leak(net, code, (), ("leak", ())), False)

    def test_without_drawn_words(self):
        self.assertEqual(hiders_or_leak(TWO, OPEN, ()), ("hides", ((),)))
        self.assertEqual(hiders_or_leak(TWO, OPEN, (0,)), ("leak", ((1,),)))
        silent = (Field(2, 1), ((0,), (1,)), (((1,),),), 1)
        self.assertEqual(hiders_or_leak(TWO, silent, (0,)), ("hides", ((),)))
        self.assertIs(is_hiders_or_leak(TWO, silent, (0,), ("hides", ((),))), True)
        self.assertIs(is_hiders_or_leak(TWO, OPEN, (0,), ("hides", ((),))), False)

    def test_counts_of_drawn_words(self):
        """The code hides from a lot if each message gives each tuple of words for equally many drawn words."""
        seen = set()
        for net, code in small_questions(137):
            own = own_of(code)
            for lot in list(subsets(range(len(net.links))))[:12]:
                counts = [own_shares(net, code, lot, message) for message in itertools.product(own.words(), repeat=code[3])]
                equal = all(count == counts[0] for count in counts)
                self.assertEqual(self.check(net, code, lot), "hides" if equal else "leak")
                seen.add((equal, bool(lot)))
        self.assertEqual(seen, {(True, True), (True, False), (False, True)})

    def test_all_values_judged(self):
        seen = set()
        dull = (F4, ((1, 0), (0, 1)), (((1, 0), (0, 0)), ((1, 0), (1, 0)), ((0, 1), (0, 1))), 1)
        for net, code, lot in (
            (TWO, SHARED, (0,)), (TWO, SHARED, (0, 1)), (TWO, SHARED, ()), (TWO, dull, (0,)), (TWO, OPEN, (0, 1)),
            (TWO, (Field(3, 1), ((1, 2), (2, 1)), (((1,), (0,)), ((1,), (1,)), ((2,), (1,))), 2), (0, 1)),
            (TWO, (Field(3, 1), ((1, 2), (1, 1)), (((1,), (0,)), ((1,), (1,)), ((2,), (1,))), 1), (0, 1)),
        ):
            own, d = own_of(code), len(code[2]) - code[3]
            for words in itertools.product(own.words(), repeat=d * code[3]):
                hiders = tuple(words[d * place:d * (place + 1)] for place in range(code[3]))
                right = are_own_hiders(net, code, lot, hiders)
                self.assertIs(is_hiders_or_leak(net, code, lot, ("hides", hiders)), right)
                seen.add(("hides", right))
            for words in itertools.product(own.words(), repeat=len(lot)):
                right = is_own_leak(net, code, lot, words)
                self.assertIs(is_hiders_or_leak(net, code, lot, ("leak", words)), right)
                seen.add(("leak", right))
        self.assertEqual(len(seen), 4)

    def test_values_of_any_kind(self):
        hiders = (((1, 0),),)
        self.assertIs(is_hiders_or_leak(TWO, SHARED, (0,), ("hides", hiders)), True)
        values = [
            *pairs_of("hides", "leak"), *[("hides", value) for value in spoiled(hiders)], hiders, ["hides", hiders], ("leak", hiders),
            ("hides", hiders, ()), ("hides", hiders * 2), ("hides", hiders[0]), ("hides", (hiders[0] * 2,)), ("Hides", hiders),
            ("hides", ()), ("hides", ((),)), ("hides", (((1, 1),),)), ("hides", (((1,),),)), ("hides", (((3, 0),),)),
        ]
        check_judge(self, is_hiders_or_leak, [TWO, SHARED, (0,)], values)
        leak = ((0, 1), (0, 1))
        self.assertIs(is_hiders_or_leak(TWO, SHARED, (0, 1), ("leak", leak)), True)
        values = [
            *pairs_of("hides", "leak"), *[("leak", value) for value in spoiled(leak)], leak, ["leak", leak], ("hides", leak),
            ("leak", leak, ()), ("leak", (*leak, (0, 0))), ("leak", leak[:1]), ("leak", ((0, 0), (0, 0))), ("leak", ((0, 1), (1, 0))),
            ("leak", ((2, 0), (0, 1))), ("leak", (0, 1), leak), ("leak", (0, 1)),
        ]
        check_judge(self, is_hiders_or_leak, [TWO, SHARED, (0, 1)], values)

    def test_wrong_arguments(self):
        wrong = [
            (errors.InvalidNet, wrong_nets()), (errors.InvalidCode, wrong_codes(TWIN, DRAWN)[::3]),
            (errors.InvalidLinks, wrong_lots(TWIN, (1, 4))),
        ]
        check_parameters(self, hiders_or_leak, [TWIN, DRAWN, (1, 4)], wrong)
        check_parameters(self, is_hiders_or_leak, [TWIN, DRAWN, (1, 4), 0], [*wrong, None])


class AnyLinks(unittest.TestCase):
    def check(self, net, code, k):
        lots = own_lots(net, k)
        due = all(own_hides(net, code, lot) for lot in lots)
        answer = hiding(net, code, k)
        self.assertEqual(answer[0], "hides" if due else "leak")
        self.assertIs(does_hide(net, code, k), due)
        self.assertIs(is_hiding(net, code, k, answer), True)
        if due:
            self.assertEqual((len(answer), len(answer[1])), (2, len(lots)))
            for lot, hiders in zip(lots, answer[1]):
                self.assertTrue(are_own_hiders(net, code, lot, hiders))
        else:
            _, lot, combination = answer
            self.assertLessEqual(len(lot), k)
            self.assertEqual(len(combination), len(lot))
            self.assertIn(lot, list(subsets(range(len(net.links)))))
            self.assertTrue(is_own_leak(net, code, lot, combination))
        return due

    def test_each_number(self):
        seen = set()
        for net, code in questions(138, 7):
            hides = []
            for k in (*range(len(net.links) + 2), 19, 20):
                hides.append(self.check(net, code, k))
                seen.add((hides[-1], min(k, 3), k > len(net.links)))
            # Hiders of a lot are hiders of each part of it.
            self.assertEqual(hides, sorted(hides, reverse=True))
            number = hides.index(False) - 1 if False in hides else None
            self.assertEqual(most_hidden(net, code), number)
        for k in (1, 2, 3):
            self.assertIn((True, k, False), seen)
            self.assertIn((False, k, False), seen)
        self.assertIn((True, 3, True), seen)

    def test_secret_parts(self):
        self.assertEqual([does_hide(FOUR, SPLIT, k) for k in range(6)], [True, True, True, False, False, False])
        self.assertEqual(most_hidden(FOUR, SPLIT), 2)
        self.assertIs(does_tell(FOUR, SPLIT, 1, 0, 1), True)

    def test_most_hidden(self):
        seen, chance = set(), random.Random(139)
        for net, code in (*questions(140, 8), *questions(141, 8), (FOUR, SPLIT), (TWO, OPEN), (TWO, SHARED)):
            hides = [all(own_hides(net, code, lot) for lot in own_lots(net, k)) for k in range(len(net.links) + 1)]
            right = None if hides[-1] else hides.index(False) - 1
            self.assertEqual(most_hidden(net, code), right)
            seen.add(right)
        self.assertTrue({None, 0, 1, 2} <= seen)
        for many, drawn in ((6, 5), (6, 4), (9, 3)):
            net = Net(2, ((0, 1),) * many)
            code = random_code(chance, net, 13, 2, 6, drawn + 1, 1)
            self.assertIs(does_tell(net, code, 1, 0, 0), True)
            self.assertLessEqual(most_hidden(net, code), drawn)

    def test_all_links_with_many_of_them(self):
        """Neither the greatest k nor that all are hidden takes more lots than can be looked at."""
        net = Net(3, ((0, 1),) * 10 + ((1, 2),) * 10)
        dull = (Field(2, 1), ((0,),) * 10 + ((1,) * 10,) * 10, (((1,),),), 1)
        self.assertIsNone(most_hidden(net, dull))
        self.assertIs(does_hide(net, dull, 20), True)
        self.assertIsNone(most_hidden(BARE, (Field(2, 1), (), (((1,),),), 1)))
        # All links carry one and the same word, that is drawn, but for the last link.
        drawn = (Field(2, 1), ((1, 0),) * 10 + ((1,) * 10,) * 9 + ((0,) * 10,), (((0,), (1,)), ((1,), (1,))), 1)
        self.assertIsNone(most_hidden(net, drawn))
        last = Net(3, ((0, 1),) * 10 + ((0, 2),) * 10)
        drawn = (Field(2, 1), ((1, 0),) * 19 + ((0, 1),), (((0,), (1,)), ((1,), (1,))), 1)
        self.assertEqual(most_hidden(last, drawn), 1)

    def test_where_a_sink_tells_it_is_at_most_the_rank_of_the_drawn_rows(self):
        checked = 0
        for net, code in questions(142):
            for sink in range(1, net.points):
                if does_tell(net, code, sink, 0, 0):
                    drawn = len(own_of(code).echelon(code[2][code[3]:]))
                    self.assertLessEqual(most_hidden(net, code), drawn)
                    checked += 1
        self.assertGreater(checked, 10)

    def test_hiders_of_other_lots(self):
        kind, rows = hiding(FOUR, SPLIT, 2)
        self.assertEqual((kind, len(rows)), ("hides", 6))
        for first, second in itertools.combinations(range(6), 2):
            turned = list(rows)
            turned[first], turned[second] = rows[second], rows[first]
            right = all(are_own_hiders(FOUR, SPLIT, lot, hiders) for lot, hiders in zip(own_lots(FOUR, 2), turned))
            self.assertIs(is_hiding(FOUR, SPLIT, 2, ("hides", tuple(turned))), right)
        for place in range(6):
            spoilt = (*rows[:place], (((3,), (3,)),), *rows[place + 1:])
            right = are_own_hiders(FOUR, SPLIT, own_lots(FOUR, 2)[place], spoilt[place])
            self.assertIs(is_hiding(FOUR, SPLIT, 2, ("hides", spoilt)), right)

    def test_leaks_of_any_lot_are_taken(self):
        seen = set()
        for lot in subsets(range(2)):
            for words in itertools.product(own_field(2, 2).words(), repeat=len(lot)):
                for k in range(4):
                    right = len(lot) <= k and is_own_leak(TWO, SHARED, lot, words)
                    self.assertIs(is_hiding(TWO, SHARED, k, ("leak", lot, words)), right)
                    seen.add((right, k))
        self.assertEqual(seen, {(False, 0), (False, 1), (False, 2), (True, 2), (False, 3), (True, 3)})
        self.assertIs(is_hiding(TWO, OPEN, 2, ("leak", (1,), ((1,),))), True)
        self.assertIs(is_hiding(TWO, OPEN, 1, ("leak", (1,), ((1,),))), True)
        self.assertIs(is_hiding(TWO, OPEN, 0, ("leak", (1,), ((1,),))), False)

    def test_values_of_any_kind(self):
        rows = hiding(TWO, SHARED, 1)[1]
        self.assertIs(is_hiding(TWO, SHARED, 1, ("hides", rows)), True)
        values = [
            *pairs_of("hides", "leak"), *[("hides", value) for value in spoiled(rows)], rows, ["hides", rows], ("hides", rows, ()),
            ("hides", rows[:1]), ("hides", (*rows, rows[0])), ("hides", (rows[0], None)), ("hides", (None, rows[1])), ("hides", ()),
            ("leak", rows), ("hides", rows[0]), ("hides", (rows[0], (((1, 1),),))), ("hides", ((((1,),),), rows[1])),
            ("leak", (0,), ((1, 0),)), ("leak", (0, 1), ((0, 1), (0, 1))), ("hides", (rows[0], [])), ("hides", (rows[0], (([],),))),
        ]
        check_judge(self, is_hiding, [TWO, SHARED, 1], values)
        right = ("leak", (0, 1), ((0, 1), (0, 1)))
        self.assertIs(is_hiding(TWO, SHARED, 2, right), True)
        values = [
            ("leak", *right[2:]), ("leak", right[2]), (*right, ()), list(right), ("hides", *right[1:]), ("leak", right[2], right[1]),
            *[("leak", value, right[2]) for value in wrong_lots(TWO, (0, 1))], *[("leak", (0, 1), value) for value in junk()],
            ("leak", (0, 1), ((0, 1),)), ("leak", (0,), right[2]), ("leak", (0, 1), ((0, 1), (0, 1), (0, 0))), ("leak", (), ()),
            ("leak", (0, 1), [(0, 1), (0, 1)]), ("leak", (0, 1), ((False, True), (0, 1))), ("leak", (0, 1), ((0, 0), (0, 0))),
        ]
        check_judge(self, is_hiding, [TWO, SHARED, 2], values)

    def test_wrong_arguments(self):
        wrong = [
            (errors.InvalidNet, wrong_nets()), (errors.InvalidCode, wrong_codes(TWIN, DRAWN)[::3]),
            (errors.InvalidNumber, wrong_numbers(20)),
        ]
        for function in (hiding, does_hide):
            check_parameters(self, function, [TWIN, DRAWN, 20], wrong)
        check_parameters(self, is_hiding, [TWIN, DRAWN, 1, 0], [*wrong, None])
        check_parameters(self, most_hidden, [TWIN, DRAWN], wrong[:2])

    def test_too_many_lots(self):
        for many in (16, 17, 18, 19, 20):
            net = Net(2, ((0, 1),) * many)
            code = (Field(2, 1), ((1,),) * many, (((1,),),), 1)
            for k in range(21):
                if math.comb(many, min(k, many)) > 20000:
                    for function, further in ((hiding, []), (does_hide, []), (is_hiding, [0]), (is_hiding, [("leak", (0,), ((1,),))])):
                        with self.assertRaises(errors.TooMany) as caught:
                            function(net, code, k, *further)
                        self.assertEqual(caught.exception.limit, 20000)
                else:
                    self.assertIs(does_hide(net, code, k), k == 0)
                    self.assertEqual(hiding(net, code, k)[0], "leak" if k else "hides")
                    self.assertIs(is_hiding(net, code, k, ("leak", (3,), ((1,),))), k > 0)
        told(self, hiding, [net, code, 21], errors.InvalidNumber, [21])
        told(self, is_hiding, [net, SHARED, 6, 0], errors.InvalidCode)

    def test_just_as_many_lots_as_are_let(self):
        net = Net(2, ((0, 1),) * 17)
        code = (Field(2, 1), ((0, 1),) * 17, (((1,), (0,)), ((1,), (1,))), 1)
        kind, rows = hiding(net, code, 7)
        self.assertEqual((kind, len(rows)), ("hides", 19448))
        self.assertIs(is_hiding(net, code, 7, (kind, rows)), True)
        self.assertIs(is_hiding(net, code, 7, (kind, (*rows[:-1], (((1,),),)))), False)


class OtherDrawn(unittest.TestCase):
    def test_the_same_is_carried(self):
        seen, chance = set(), random.Random(143)
        for net, code in questions(144):
            own, d = own_of(code), len(code[2]) - code[3]
            for lot in some_lots(chance, net):
                message, other = random_words(chance, own.q, own.m, code[3]), random_words(chance, own.q, own.m, code[3])
                drawn = random_words(chance, own.q, own.m, d)
                seen.add(self.check(net, code, lot, message, drawn, other))
                self.assertEqual(self.check(net, code, lot, message, drawn, message), (True, own_hides(net, code, lot)))
        self.assertEqual(seen, {(True, True), (False, False), (True, False)})

    def check(self, net, code, lot, message, drawn, other):
        own, d = own_of(code), len(code[2]) - code[3]
        before = own_carried(net, own.q, own.m, code[1], own_source(own, code, message, drawn))
        tapped, more = own_tapped(net, code, lot)
        delta = [own.minus(one, two) for one, two in zip(message, other)]
        side = tuple(own.dot([row[place] for row in tapped], delta) for place in range(len(lot)))
        can = len(own.echelon([*more, side])) == len(own.echelon(more))
        if not can:
            with self.assertRaises(errors.Refused) as caught:
                other_drawn(net, code, lot, message, drawn, other)
            self.assertEqual(caught.exception.reason, ("leak",))
            return can, own_hides(net, code, lot)
        found = other_drawn(net, code, lot, message, drawn, other)
        self.assertEqual(len(found), d)
        after = own_carried(net, own.q, own.m, code[1], own_source(own, code, other, found))
        self.assertEqual([before[link] for link in lot], [after[link] for link in lot])
        return can, own_hides(net, code, lot)

    def test_in_spite_of_a_leak(self):
        """There are such drawn words for some messages, though others are told."""
        code = (Field(2, 1), ((1, 0), (0, 1)), (((1,), (0,)), ((0,), (1,))), 2)
        self.assertEqual(other_drawn(TWO, code, (0,), ((1,), (0,)), (), ((1,), (1,))), ())
        told(self, other_drawn, [TWO, code, (0,), ((1,), (0,)), (), ((0,), (0,))], errors.Refused)

    def test_wrong_arguments(self):
        code = (Field(2, 2), MIXING, (((0, 1), (1, 1)), ((1, 0), (1, 1)), ((1, 1), (0, 0))), 1)
        words = {many: ((1, 0), (0, 1))[:many] for many in (1, 2)}

        def wrong(right):
            return (errors.InvalidWord, [
                *junk(), 0, (), *spoiled(right), (*right, (0, 0)), right[:-1], ((2, 0),) * len(right), ((1,),) * len(right), (right,),
                ((1, 0, 0),) * len(right),
            ])

        check_parameters(self, other_drawn, [TWIN, code, (1, 4), words[1], words[2], words[1]], [
            (errors.InvalidNet, wrong_nets()), (errors.InvalidCode, wrong_codes(TWIN, code)[::3]),
            (errors.InvalidLinks, wrong_lots(TWIN, (1, 4))), wrong(words[1]), wrong(words[2]), wrong(words[1]),
        ])
        # Wrong words are told ahead of the leak.
        told(self, other_drawn, [TWO, SHARED, (0, 1), ((1, 1),), ((0, 1),), ((1, 0), (1, 0))], errors.InvalidWord)


class Shares(unittest.TestCase):
    def test_all_drawn_words(self):
        seen, chance = set(), random.Random(145)
        for net, code in small_questions(146):
            own = own_of(code)
            for lot in some_lots(chance, net):
                message = random_words(chance, own.q, own.m, code[3])
                found = shares(net, code, lot, message)
                self.assertIs(type(found), dict)
                self.assertEqual(found, own_shares(net, code, lot, message))
                self.assertEqual(list(found), sorted(found))
                self.assertEqual(len(set(found.values())), 1)
                seen.add((min(2, len(found)), min(2, *found.values(), 2)))
        self.assertEqual(seen, {(1, 1), (1, 2), (2, 1), (2, 2)})

    def test_how_often(self):
        """[12.5]"""
        for net, code in small_questions(147):
            own, d = own_of(code), len(code[2]) - code[3]
            lot = tuple(range(min(2, len(net.links))))
            rank = len(own.echelon(own_tapped(net, code, lot)[1]))
            found = shares(net, code, lot, (own.zero,) * code[3])
            size = own.q ** own.m
            self.assertEqual([len(found), set(found.values())], [size ** rank, {size ** (d - rank)}])
            if own_hides(net, code, lot):
                for message in itertools.product(own.words(), repeat=code[3]):
                    self.assertEqual(shares(net, code, lot, message), found)

    def test_bounds(self):
        for q, m, many, right in (
            (2, 1, 11, 2048), (3, 1, 9, 19683), (3, 1, 10, None), (13, 3, 1, 2197), (13, 4, 1, None), (2, 2, 7, 16384), (2, 2, 8, None),
            (5, 6, 1, 15625), (7, 2, 2, 2401), (7, 2, 3, None), (11, 1, 4, 14641), (2, 6, 2, 4096), (2, 6, 3, None),
        ):
            field = Field(q, m)
            code = (field, ((1, 0), (0, 1)), ((field.one, field.zero),) * (many + 1), 1)
            if right is None:
                with self.assertRaises(errors.TooMany) as caught:
                    shares(TWO, code, (1,), (field.one,))
                self.assertEqual(caught.exception.limit, 20000)
                told(self, shares, [TWO, code, (1,), ()], errors.InvalidWord)
            else:
                self.assertEqual(shares(TWO, code, (1,), (field.one,)), {(field.zero,): right})
                self.assertEqual(len(shares(TWO, code, (0,), (field.one,))), field.size)

    def test_without_drawn_words(self):
        self.assertEqual(shares(TWO, OPEN, (0, 1), ((1,),)), {((1,), (1,)): 1})
        self.assertEqual(shares(TWO, OPEN, (), ((1,),)), {(): 1})
        self.assertEqual(shares(TWO, SHARED, (), ((1, 1),)), {(): 4})

    def test_wrong_arguments(self):
        words = ((1, 0),)
        wrong = [
            *junk(), 0, (), *spoiled(words), ((1, 0), (0, 1)), ((2, 0),), ((1,),), (words,), ((1, 0, 0),), "10",
        ]
        check_parameters(self, shares, [TWIN, DRAWN, (1, 4), words], [
            (errors.InvalidNet, wrong_nets()), (errors.InvalidCode, wrong_codes(TWIN, DRAWN)[::3]),
            (errors.InvalidLinks, wrong_lots(TWIN, (1, 4))), (errors.InvalidWord, wrong),
        ])


class NoneIsTrue(unittest.TestCase):
    """[12.6]"""

    def test_hidden_from_each_of_two_lots_but_not_from_both(self):
        kinds = [hiders_or_leak(TWO, SHARED, lot)[0] for lot in ((0,), (1,), (0, 1))]
        self.assertEqual(kinds, ["hides", "hides", "leak"])

    def test_without_drawn_words_hidden_from_a_link(self):
        code = (Field(2, 1), ((0,), (1,)), (((1,),),), 1)
        self.assertEqual([hiders_or_leak(TWO, code, (0,))[0], hiders_or_leak(TWO, code, (1,))[0]], ["hides", "leak"])

    def test_a_further_drawn_row_hides_no_more(self):
        field, mixing, rows, r = SHARED
        self.assertEqual(most_hidden(TWO, (field, mixing, (*rows, rows[1]), r)), most_hidden(TWO, SHARED))

    def test_link_with_a_sum_of_two_message_words_leaks(self):
        code = (Field(2, 1), ((1, 1), (0, 1)), (((1,), (0,)), ((0,), (1,))), 2)
        self.assertEqual(own_rank(2, own_vectors(TWO, 2, 2, code[1])), 2)
        self.assertEqual(hiders_or_leak(TWO, code, (0,)), ("leak", ((1,),)))
