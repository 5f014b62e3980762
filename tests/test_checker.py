"""Stage 19: claims and their checker."""

import itertools
import random
import unittest

from rowsthrough import errors
from rowsthrough.base import fields
from rowsthrough.base.fields import Field
from rowsthrough.base.matrices import inverted, word_solved
from rowsthrough.bent.telling import telling
from rowsthrough.check import checker
from rowsthrough.check.checker import is_claim, kinds, opposite, takes
from rowsthrough.code.decoding import helpers, near_answer
from rowsthrough.hide.hiding import hiding
from rowsthrough.house.desk import Desk
from rowsthrough.link.allsinks import code_or_cut
from rowsthrough.link.linkcodes import had_from
from rowsthrough.net import nets
from rowsthrough.net.flows import ways_or_cut
from rowsthrough.net.nets import Net
from rowsthrough.net.plain import to_all
from rowsthrough.whole.changes import loss
from rowsthrough.whole.plans import plan_or_cut
from tests.helper import (
    Own, OwnPolynomials, all_cuts, choices, drawn_nets, has_reader, junk, least_number, own_cut_links, own_hides,
    own_into, own_lots,
    own_of, own_rank, own_rows, own_tapped, random_code, random_link_code, random_word_rows, random_words,
    run_examples, spoiled, told,
    tuples, wrong_bases, wrong_codes, wrong_fields, wrong_link_codes, wrong_nets, wrong_numbers, wrong_points,
    wrong_sinks,
    wrong_sizes,
)

EXAMPLES = """
>>> LINE = Net(2, ((0, 1), (0, 1), (0, 1)))
>>> SAME = (Field(2, 2), ((1,), (1,), (1,)), (((1, 0),),), 1)
>>> [len(kinds()), opposite(("ways", LINE, 1, 3))[0], is_claim(("ways", LINE, 1)), is_claim(("for all", LINE, (1,), 1, 4)), is_claim(("tells", LINE, SAME, 1, 7, 0))]
[22, 'cut', False, False, False]
>>> [takes(("ways", LINE, 1, 3), ("ways", ((2,), (0,), (1,)))), takes(("cut", LINE, 1, 3), ("cut", (0,))), takes(("leaks", LINE, SAME, 1), ("leak", (1,), ((0, 1),)))]
[True, False, True]
>>> [takes(("solved", Field(2, 1), (((1,),),), ((1,),)), ("solution", ((1,),))), takes(("starved", LINE, 4), ("point", 1)), takes(("needed", LINE, (1,), 0), ("falls", 1, (0,)))]
[True, True, True]
"""

PAIRS = (
    ("solved", "barred"), ("inverted", "lost"), ("near", "far"), ("ways", "cut"), ("had", "wanting"),
    ("for all", "too few"),
    ("tells", "mixes"), ("hides", "leaks"), ("planned", "unplanned"), ("copied", "starved"), ("spared", "needed"),
)
LINE = Net(2, ((0, 1), (0, 1), (0, 1)))
SAME = (Field(2, 2), ((1,), (1,), (1,)), (((1, 0),),), 1)
TWIN = Net(3, ((0, 1), (0, 1), (0, 2), (1, 2)))
FLY = Net(7, ((0, 1), (0, 2), (1, 3), (1, 5), (2, 3), (2, 6), (3, 4), (4, 5), (4, 6)))
MIXING = ((1, 0), (0, 1), (1,), (1,), (1,), (1,), (1, 1), (1,), (1,))
FULL = Net(2, ((0, 1),) * 20)
FULL_CODE = (Field(2, 1), ((1,),) * 20, (((1,),),), 1)
TWO, SHARED = Net(2, ((0, 1), (0, 1))), (Field(2, 2), ((1, 0), (0, 1)), (((1, 0), (0, 0)), ((1, 0), (1, 0))), 1)


def small_nets(seed, most_links=8, most_points=5):
    return [LINE, TWIN, TWO, Net(4, ()), *drawn_nets(seed, most_links, most_points)]


def some_sinks(chance, net):
    return tuple(sorted(chance.sample(range(1, net.points), chance.randrange(1, min(4, net.points)))))


# For each pair of kinds: members, whether the first kind is true, the answer of the stage, and papers, each with whether it is
# right for the kind that is true.
def of_solved(chance):
    for q, m in ((2, 1), (3, 1), (2, 2), (2, 3)):
        own = Own(q, m)
        for _ in range(14):
            many, columns = chance.randrange(4), chance.randrange(3)
            rows = random_word_rows(chance, q, m, many, columns)
            columns = columns if rows else 0
            side = random_words(chance, q, m, many)
            papers = []
            for words in itertools.product(own.words(), repeat=columns):
                papers.append((("solution", words), all(own.dot(row, words) == one for row, one in zip(rows, side))))
            due = any(right for _, right in papers)
            if not due:
                papers = []
                for words in itertools.product(own.words(), repeat=many):
                    turned = [own.dot(column, words) for column in zip(*rows)]
                    papers.append((
                        ("barred", words),
                        own.dot(side, words) == own.one and all(word == own.zero for word in turned),
                    ))
            yield (Field(q, m), rows, side), due, word_solved(Field(q, m), rows, side), papers


def of_inverted(chance):
    for q, m in ((2, 1), (3, 1), (2, 2), (13, 2)):
        own = Own(q, m)
        for _ in range(12):
            many = chance.randrange(4)
            rows = random_word_rows(chance, q, m, many, many)
            due, papers = len(own.echelon(rows)) == many, []
            if not due and q ** (m * many) < 100:
                for words in itertools.product(own.words(), repeat=many):
                    right = any(word != own.zero for word in words) and all(own.dot(row, words) == own.zero for row in rows)
                    papers.append((("lost", words), right))
            answer = inverted(Field(q, m), rows)
            if due:
                papers = [
                    (("inverse", rows), own.product(rows, rows) == own.unit(many)),
                    (("inverse", answer[1]), own.product(rows, answer[1]) == own.unit(many)),
                ]
            yield (Field(q, m), rows), due, answer, papers


def of_near(chance):
    for q, m, many, size, most in ((2, 2, 2, 1, 0), (2, 3, 3, 1, 1), (3, 2, 2, 1, 0), (2, 4, 4, 2, 1), (2, 3, 4, 2, 0)):
        own = OwnPolynomials(q, m)
        units = tuple(tuple(int(i == j) for j in range(m)) for i in range(m))
        points = (*units, units[0], own.total(units))[:many]
        for _ in range(10):
            received = random_words(chance, q, m, many)
            if chance.randrange(2):
                f = own.random_polynomial(chance, size)
                received = tuple(own.value(f, point) for point in points)
            papers = [(("near", f), own.wrong_rank(points, received, f) <= most) for f in sorted(set(own.polynomials(size)))]
            due = any(right for _, right in papers)
            field = Field(q, m)
            if not due:
                pair = helpers(field, points, size, received, most)
                papers = [] if pair is None else [(("far", *pair), True), (("far", pair[1], pair[0]), False)]
            yield (field, points, size, received, most), due, near_answer(field, points, size, received, most), papers


def of_ways(chance):
    for net in small_nets(251, 12, 6):
        for sink in range(1, net.points):
            for number in range(5):
                due, answer = least_number(net, sink) >= number, ways_or_cut(net, sink, number)
                if due:
                    papers = [(("ways", some), True) for some in list(itertools.permutations(answer[1]))[:6]]
                    papers += [(("ways", answer[1][1:]), number == 0), (("ways", (*answer[1], *answer[1][:1])), number == 0)]
                else:
                    papers = [(("cut", cut), len(own_cut_links(net, cut)) < number) for cut in all_cuts(net, sink)]
                yield (net, sink, number), due, answer, papers


def of_had(chance):
    for net in small_nets(252):
        for q, n in ((2, 1), (3, 2), (2, 3)):
            code, sink = random_link_code(chance, net, q, n, 3), chance.randrange(1, net.points)
            rows, wanted = own_rows(net, q, n, code, sink), tuple(chance.randrange(q) for _ in range(n))
            due = own_rank(q, [*rows, wanted]) == own_rank(q, rows)
            papers = []
            if due and len(rows) < 5:
                for numbers in tuples(q, len(rows)):
                    made = tuple(sum(number * row[place] for number, row in zip(numbers, rows)) % q for place in range(n))
                    papers.append((("sum", numbers), made == wanted))
            if not due:
                for numbers in tuples(q, n):
                    products = [sum(a * b for a, b in zip(numbers, row)) % q for row in rows]
                    papers.append((
                        ("barred", numbers),
                        not any(products) and sum(a * b for a, b in zip(numbers, wanted)) % q != 0,
                    ))
            yield (net, q, n, code, sink, wanted), due, had_from(net, q, n, code, sink, wanted), papers


def of_all(chance):
    for net in small_nets(253, 12, 6):
        for n, q in ((1, 3), (2, 3), (3, 7), (6, 5)):
            sinks = some_sinks(chance, net)
            due, answer = min(least_number(net, sink) for sink in sinks) >= n, code_or_cut(net, sinks, n, q)
            if due:
                papers = []
                for _ in range(4):
                    code = random_link_code(chance, net, q, n, 1)
                    papers.append((("code", code), all(own_rank(q, own_rows(net, q, n, code, sink)) == n for sink in sinks)))
            else:
                papers = [(
                    ("cut", sink, cut), len(own_cut_links(net, cut)) < n,
                ) for sink in sinks for cut in all_cuts(net, sink)]
            yield (net, sinks, n, q), due, answer, papers


def of_telling(chance):
    for net in small_nets(254, 6, 5):
        for q, m in ((2, 1), (2, 2)):
            code, sink = random_code(chance, net, q, m, 2, chance.randrange(1, 3), 1, 3), chance.randrange(1, net.points)
            for t, s in ((0, 0), (1, 0), (0, 1), (1, 1)):
                due = all(has_reader(net, code, sink, silent, lot) for silent, lot in choices(net, t, s))
                answer, papers = telling(net, code, sink, t, s), []
                if due:
                    papers.append((("tells", answer[1][:-1]), False))
                else:
                    _, silent, one, other = answer
                    papers += [
                        (("two", silent, other, one), True), (("two", silent, one, one), False),
                        (("two", silent, other, other), False),
                    ]
                yield (net, code, sink, t, s), due, answer, papers


def of_hiding(chance):
    for net in small_nets(255, 6, 5):
        for q, m, many in ((2, 1, 3), (2, 2, 2), (3, 1, 2), (2, 1, 1)):
            code = random_code(chance, net, q, m, 2, many, 1, 3)
            own = own_of(code)
            for k in range(3):
                due, answer, papers = all(own_hides(net, code, lot) for lot in own_lots(net, k)), hiding(net, code, k), []
                if due:
                    papers.append((("hides", answer[1][:-1]), False))
                for size in range(0 if due else k + 1):
                    for lot in itertools.combinations(range(len(net.links)), size):
                        message, drawn = own_tapped(net, code, lot)
                        for words in itertools.product(own.words(), repeat=size):
                            right = any(own.dot(row, words) != own.zero for row in message)
                            papers.append((
                                ("leak", lot, words), right and all(own.dot(row, words) == own.zero for row in drawn),
                            ))
                yield (net, code, k), due, answer, chance.sample(papers, min(len(papers), 60))


def of_plans(chance):
    for net in small_nets(256, 9, 5):
        for numbers in ((1, 0, 0, 0), (1, 0, 0, 1), (2, 0, 0, 0), (1, 0, 1, 0), (1, 1, 0, 0)):
            sinks, q = some_sinks(chance, net), chance.choice((3, 5))
            n = numbers[0] + 2 * numbers[1] + numbers[2] + numbers[3]
            due, answer = min(least_number(net, sink) for sink in sinks) >= n, plan_or_cut(net, sinks, numbers, q)
            if due:
                field, mixing, rows, r = answer[1]
                papers = [
                    (("plan", (field, tuple((0,) * len(one) for one in mixing), rows, r)), False),
                    (("plan", (field, mixing, rows[1:], r)), False),
                ]
            else:
                papers = [(
                    ("cut", sink, cut), len(own_cut_links(net, cut)) < n,
                ) for sink in sinks for cut in all_cuts(net, sink)]
            yield (net, sinks, numbers, q), due, answer, papers


def of_copies(chance):
    for net in [*small_nets(257, 12, 6), Net(3, ((0, 1), (0, 1), (1, 2), (1, 2))), Net(3, ((0, 1), (0, 2), (1, 2)))]:
        for n in (1, 2, 3):
            few = [point for point in range(1, net.points) if len(own_into(net, point)) < n]
            papers = [(("point", point), point in few) for point in range(net.points + 1)]
            yield (net, n), not few, to_all(net, n), papers if few else [(("plan", (None,) * len(net.links)), False)]


def of_loss(chance):
    for net in small_nets(258, 12, 6):
        for link in range(len(net.links)):
            sinks = some_sinks(chance, net)
            less = Net(net.points, net.links[:link] + net.links[link + 1:])
            number = min(least_number(net, sink) for sink in sinks)
            due = min(least_number(less, sink) for sink in sinks) == number
            papers = [(("stays", ((),) * len(sinks)), number == 0)]
            if not due:
                papers = []
                for sink in sinks:
                    for cut in all_cuts(net, sink):
                        links = own_cut_links(net, cut)
                        papers.append((("falls", sink, cut), len(links) == number and link in links))
            yield (net, sinks, link), due, loss(net, sinks, link), papers


QUESTIONS = (of_solved, of_inverted, of_near, of_ways, of_had, of_all, of_telling, of_hiding, of_plans, of_copies, of_loss)
FIELD, ROWS, SIDE = Field(3, 2), (((1, 0), (0, 1)), ((2, 2), (0, 0))), ((1, 1), (0, 1))
F8, POINTS = Field(2, 3), ((1, 0, 0), (0, 1, 0), (0, 0, 1))
DRAWN = (Field(2, 2), MIXING, (((0, 1), (1, 1)), ((1, 0), (0, 1))), 1)


def words_wrong(right):
    return [*junk(), 0, 1, *spoiled(right), right[:-1], (*right, right[0]), (right,), ((9,) * len(right[0]),) * len(right)]


def members_and_wrong():
    """For each pair of kinds right members, and for each of them values that make it no claim."""
    net, sinks, sink = wrong_nets(), wrong_sinks(FLY, (5, 6)), wrong_points(FLY)
    rows = [*junk(), 0, 1, *spoiled(ROWS), (ROWS,), ROWS[0], ((FIELD.one,), (FIELD.one,) * 2)]
    points = [*junk(), 0, 1, (), *spoiled(POINTS), (POINTS,), ((0, 0),), (F8.one,) * 21]
    return [
        ((FIELD, ROWS, SIDE), (wrong_fields(), [*rows, ROWS[:1]], words_wrong(SIDE))),
        ((FIELD, ROWS), (wrong_fields(), [*rows, ROWS[:1], (ROWS[0][:1],) * 2])),
        (
            (F8, POINTS, 1, POINTS, 1),
            (wrong_fields(), [*points, POINTS[:2]], [*wrong_sizes(), 2, 3], words_wrong(POINTS), [*wrong_numbers(6), 2, 6]),
        ),
        ((FLY, 5, 2), (net, sink, wrong_numbers(20))),
        (
            (FLY, 2, 2, MIXING, 5, (1, 1)),
            (
                net, wrong_bases(), [*wrong_sizes(), 1, 3], wrong_link_codes(FLY, 2, MIXING), sink,
                [*junk(), *spoiled((1, 1)), (1,), (1, 2), (1, 1, 1)],
            ),
        ),
        ((FLY, (5, 6), 2, 2), (net, [*sinks, (3, 5, 6)], wrong_sizes(), wrong_bases())),
        ((FLY, DRAWN, 5, 0, 1), (net, wrong_codes(FLY, DRAWN)[::2], sink, wrong_numbers(6), wrong_numbers(6))),
        ((FLY, DRAWN, 1), (net, wrong_codes(FLY, DRAWN)[::2], wrong_numbers(20))),
        (
            (FLY, (5, 6), (1, 0, 0, 1), 2),
            (
                net, [*sinks, (3, 5, 6)],
                [
                    *junk(), *spoiled((1, 0, 0, 1)), (0, 0, 0, 1), (1, 0, 0), (1, 0, 0, 1, 0), (6, 0, 0, 1),
                    (1, 3, 0, 0), (1, 7, 0, 0),
                ],
                wrong_bases(),
            ),
        ),
        ((FLY, 2), (net, wrong_sizes())),
        ((FLY, (5, 6), 3), (net, sinks, wrong_numbers(8))),
    ]


class Examples(unittest.TestCase):
    def test_examples(self):
        run_examples(self, EXAMPLES, {**vars(nets), **vars(fields), **vars(checker)})


class Claims(unittest.TestCase):
    def test_kinds(self):
        self.assertEqual(kinds(), tuple(sorted(kind for pair in PAIRS for kind in pair)))
        self.assertEqual(len(kinds()), 22)

    def test_right_ones_and_opposites(self):
        for pair, (members, _) in zip(PAIRS, members_and_wrong()):
            for kind, other in (pair, pair[::-1]):
                claim = (kind, *members)
                before = repr(claim)
                self.assertIs(is_claim(claim), True, kind)
                self.assertEqual(opposite(claim), (other, *members))
                self.assertEqual(opposite(opposite(claim)), claim)
                self.assertEqual(repr(claim), before)

    def not_one(self, claim):
        self.assertIs(is_claim(claim), False, claim)
        told(self, opposite, [claim], errors.InvalidOperation)
        told(self, takes, [claim, ("cut", (0,))], errors.InvalidOperation)

    def test_one_member_bent(self):
        for pair, (members, wrong) in zip(PAIRS, members_and_wrong()):
            self.assertEqual(len(members), len(wrong))
            for place, values in enumerate(wrong):
                for number, value in enumerate(values):
                    self.not_one((pair[number % 2], *members[:place], value, *members[place + 1:]))

    def test_a_member_left_out_or_put_in(self):
        for pair, (members, _) in zip(PAIRS, members_and_wrong()):
            for kind in pair:
                for place in range(len(members) + 1):
                    for value in (0, 1, None, FLY, (), members[0]):
                        self.not_one((kind, *members[:place], value, *members[place:]))
                    if place < len(members):
                        self.not_one((kind, *members[:place], *members[place + 1:]))
                self.not_one((kind,))
                self.not_one(members)
                self.not_one([kind, *members])
                self.not_one((kind.upper(), *members))
                self.not_one(((kind,), *members))
                self.not_one((kind, members))

    def test_of_another_kind(self):
        told_ones = members_and_wrong()
        for number, (members, _) in enumerate(told_ones):
            for pair, (others, _) in zip(PAIRS, told_ones):
                claim = (pair[0], *members)
                same = [len(others) == len(members), *[type(a) is type(b) for a, b in zip(others, members)]]
                if not all(same):
                    self.not_one(claim)

    def test_values_of_any_kind(self):
        for value in [
            *junk(), 0, 1, (), ((),), "ways", ("ways",), ("",), (None, FLY, 5, 2), (True, FLY, 5, 2), (FLY, 5, 2),
            (["ways"], FLY, 5, 2), (FLY, "ways", 5, 2), FLY, Desk(FLY), (Desk(FLY), FLY, 5, 2), ({}, 1),
        ]:
            self.not_one(value)

    def test_what_is_too_much(self):
        """What the judging functions raise TooMany for is no claim; what they do not is one."""
        for claim, right in (
            (("tells", FULL, FULL_CODE, 1, 2, 0), True), (("mixes", FULL, FULL_CODE, 1, 3, 0), False),
            (("tells", FULL, FULL_CODE, 1, 2, 1), False),
            (("hides", FULL, FULL_CODE, 5), True), (("leaks", FULL, FULL_CODE, 6), False),
            (("hides", FULL, FULL_CODE, 15), True), (("hides", FULL, FULL_CODE, 20), True),
            (("planned", FULL, (1,), (1, 2, 0, 0), 2), True), (("unplanned", FULL, (1,), (1, 2, 1, 0), 2), False),
            (("planned", FULL, (1,), (6, 0, 0, 0), 2), True),
            (("planned", FULL, (1,), (6, 0, 0, 1), 2), False), (("near", F8, POINTS, 1, POINTS, 1), True),
            (("far", F8, POINTS, 2, POINTS, 1), False),
            (("lost", FIELD, ()), True), (("lost", FIELD, (((0, 0),) * 2,)), False), (("ways", FLY, 5, 20), True),
            (("cut", FLY, 5, 21), False),
        ):
            if right:
                self.assertIs(is_claim(claim), True, claim)
            else:
                self.not_one(claim)

    def test_bases_below_the_number_of_sinks(self):
        star = Net(5, ((0, 1), (0, 2), (0, 3), (0, 4)))
        for sinks, q in itertools.product(((1,), (1, 2), (1, 2, 3), (1, 2, 3, 4)), (2, 3, 5)):
            for kind, more in (("for all", 1), ("too few", 2), ("planned", (1, 0, 0, 0)), ("unplanned", (2, 0, 0, 0))):
                claim = (kind, star, sinks, more, q)
                if len(sinks) <= q:
                    self.assertIs(is_claim(claim), True)
                else:
                    self.not_one(claim)


class Papers(unittest.TestCase):
    def check(self, pair, members, due, answer, papers):
        claims = [(kind, *members) for kind in pair]
        true, false = claims if due else claims[::-1]
        self.assertTrue(is_claim(true) and is_claim(false))
        # The true one has the paper that its stage tells, and the other one has none.
        self.assertIs(takes(true, answer), True, (true, answer))
        self.assertIs(takes(false, answer), False)
        for paper, right in papers:
            self.assertIs(takes(true, paper), right, (true, paper))
            self.assertIs(takes(false, paper), False)
        for paper in [
            *junk(), 0, (), ((),), answer[0], answer[1:], list(answer), (*answer, 0), answer[:-1],
            (answer[0].upper(), *answer[1:]), (answer,),
        ]:
            self.assertIs(takes(true, paper), False, (true, paper))
            self.assertIs(takes(false, paper), False)
        return due

    def test_opposite_claims(self):
        for number, (pair, questions) in enumerate(zip(PAIRS, QUESTIONS)):
            seen, judged = set(), set()
            answers = []
            for members, due, answer, papers in questions(random.Random(260 + number)):
                seen.add(self.check(pair, members, due, answer, papers))
                judged |= {(due, right) for _, right in papers}
                answers.append((members, due, answer))
            self.assertEqual(seen, {True, False}, pair)
            self.assertTrue(len(judged) >= 3, (pair, judged))
            self.others(pair, answers)

    def others(self, pair, answers):
        """No paper of another claim is taken for a claim that is not true."""
        chance = random.Random(259)
        for members, due, _ in chance.sample(answers, min(len(answers), 12)):
            false = (pair[1] if due else pair[0], *members)
            for _, _, answer in chance.sample(answers, min(len(answers), 12)):
                self.assertIs(takes(false, answer), False)

    def test_papers_bent(self):
        for number, (pair, questions) in enumerate(zip(PAIRS, QUESTIONS)):
            chance = random.Random(280 + number)
            some = [entry for entry in questions(chance)]
            for members, due, answer, _ in chance.sample(some, min(len(some), 10)):
                true, false = ((pair[0], *members), (pair[1], *members)) if due else ((pair[1], *members), (pair[0], *members))
                bent = list(spoiled(answer[1:]))
                for value in chance.sample(bent, min(len(bent), 25)):
                    if isinstance(value, tuple):
                        taken = takes(true, (answer[0], *value))
                        # `None` in the place of a word's index makes another plain plan.
                        self.assertIs(taken and pair[0] != "copied", False, (true, value))
                        self.assertIs(takes(false, (answer[0], *value)), False)

    def test_papers_of_other_kinds(self):
        """A paper with the right words, but of a kind that stands for another claim."""
        cut = ("cut", (0, 1, 2, 3, 4, 6))
        self.assertIs(takes(("cut", FLY, 5, 3), cut), True)
        for paper in (("ways", cut[1]), ("cut", 5, cut[1]), ("falls", 5, cut[1]), ("barred", cut[1])):
            self.assertIs(takes(("cut", FLY, 5, 3), paper), False)
        self.assertIs(takes(("unplanned", FLY, (5, 6), (3, 0, 0, 0), 2), ("cut", 5, cut[1])), True)
        self.assertIs(takes(("planned", FLY, (5, 6), (3, 0, 0, 0), 2), ("cut", 5, cut[1])), False)
        self.assertIs(takes(("too few", FLY, (5, 6), 3, 2), ("cut", 5, cut[1])), True)
        self.assertIs(takes(("for all", FLY, (5, 6), 3, 2), ("cut", 5, cut[1])), False)
        self.assertIs(takes(("needed", FLY, (5, 6), 3), ("falls", 5, cut[1])), True)
        self.assertIs(takes(("needed", FLY, (5, 6), 2), ("falls", 5, cut[1])), False)

    def test_both_kinds_of_papers_that_nothing_is_near(self):
        field = Field(2, 3)
        apart, far = ((1, 0, 0), (1, 0, 0), (0, 1, 0)), ((1, 1, 0), (1, 0, 0), (0, 0, 0))
        one, other = near_answer(field, POINTS, 1, apart, 0), near_answer(field, POINTS, 1, far, 1)
        self.assertEqual([one[0], other[0]], ["apart", "far"])
        self.assertEqual([takes(("far", field, POINTS, 1, apart, 0), paper) for paper in (one, other)], [True, False])
        self.assertEqual([takes(("far", field, POINTS, 1, far, 1), paper) for paper in (one, other)], [False, True])
        self.assertEqual(
            [takes(
                ("near", field, POINTS, 1, received, most), paper,
            ) for received, most, paper in ((apart, 0, one), (far, 1, other))],
            [False] * 2,
        )

    def test_wrong_arguments(self):
        for claim in [*junk(), 0, 1, (), ("ways", FLY, 5), ("way", FLY, 5, 2)]:
            told(self, opposite, [claim], errors.InvalidOperation)
            for paper in (None, ("ways", ()), Field(2, 1)):
                told(self, takes, [claim, paper], errors.InvalidOperation)
        for paper in [*junk(), FLY, Desk(FLY), (FLY,), ({},), ([],), (["ways"], ()), ((), ())]:
            before = repr(paper)
            self.assertIs(takes(("ways", FLY, 5, 2), paper), False)
            self.assertEqual(repr(paper), before)


class NoneIsTrue(unittest.TestCase):
    """[19.3]"""

    def test_a_paper_that_is_not_taken(self):
        claim = ("cut", FLY, 5, 3)
        self.assertEqual([takes(claim, ("cut", (0, 1))), takes(claim, ("cut", (0,)))], [False, True])

    def test_a_paper_for_two_claims(self):
        self.assertEqual([takes(("cut", LINE, 1, number), ("cut", (0,))) for number in (4, 5)], [True, True])

    def test_two_papers_for_a_claim(self):
        self.assertEqual([takes(("ways", LINE, 1, 1), ("ways", ((link,),))) for link in range(3)], [True] * 3)
