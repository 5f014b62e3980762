"""Stage 13: plans, and what the main statements [0.15], [0.17] and [0.18] say of them."""

import itertools
import random
import unittest

from rowsthrough import errors
from rowsthrough.base import fields
from rowsthrough.base.fields import Field
from rowsthrough.bent.telling import does_tell, is_code
from rowsthrough.hide.hiding import does_hide
from rowsthrough.link.allsinks import is_for_all
from rowsthrough.net import nets
from rowsthrough.net.nets import Net
from rowsthrough.whole import plans
from rowsthrough.whole.plans import does_keep, frontier, is_plan_or_cut, plan_or_cut, room
from tests.helper import (
    all_cuts, check_judge, check_parameters, choices, drawn_nets, has_reader, junk, least_number, own_cut_links,
    own_field, own_hides, own_lots, own_of, own_shares, pairs_of, random_code, random_net, run_examples, spoiled,
    subsets, tells_by_all_sendings, told, tuples, wrong_bases, wrong_codes, wrong_nets, wrong_numbers, wrong_sinks,
)

EXAMPLES = """
>>> FLY = Net(7, ((0, 1), (0, 2), (1, 3), (1, 5), (2, 3), (2, 6), (3, 4), (4, 5), (4, 6)))
>>> [room(FLY, (5, 6)), frontier(FLY, (5, 6)), plan_or_cut(FLY, (5, 6), (2, 0, 0, 1), 2)[0], plan_or_cut(FLY, (5, 6), (1, 0, 0, 1), 2)[0]]
[2, ((1, 0, 0, 1), (1, 0, 1, 0), (2, 0, 0, 0)), 'cut', 'plan']
>>> CODE = plan_or_cut(FLY, (5, 6), (1, 0, 1, 0), 3)[1]
>>> [does_keep(FLY, CODE, (5, 6), 0, 1, 0), does_keep(FLY, CODE, (5, 6), 0, 2, 0), does_keep(FLY, CODE, (5, 6), 0, 0, 1), CODE[3]]
[True, False, False, 1]
>>> [is_plan_or_cut(FLY, (5, 6), (1, 1, 0, 0), 3, ("cut", 5, (0, 1, 2, 3, 4, 6))), is_plan_or_cut(FLY, (5, 6), (1, 0, 0, 1), 3, ("cut", 5, (0,)))]
[True, False]
"""

FLY = Net(7, ((0, 1), (0, 2), (1, 3), (1, 5), (2, 3), (2, 6), (3, 4), (4, 5), (4, 6)))
BARE = Net(4, ())
THREE = Net(2, ((0, 1), (0, 1), (0, 1)))
SIX = Net(3, ((0, 1),) * 6 + ((0, 2),) * 6)
SEVEN = Net(2, ((0, 1),) * 7)
FULL = Net(2, ((0, 1),) * 20)
STAR = Net(4, ((0, 1), (0, 2), (0, 3)))
# All links carry the one message word.
SAID = (Field(2, 1), ((1,), (1,), (1,)), (((1,),),), 1)
# The message word and the drawn word are mixed at point 3.
MIXING = ((1, 0), (0, 1), (1,), (1,), (1,), (1,), (1, 1), (1,), (1,))
BASES = (2, 3, 5, 7, 11, 13)
NUMBERS = [
    numbers for numbers in itertools.product(range(1, 7), range(4), range(7), range(7))
    if numbers[0] + 2 * numbers[1] + numbers[2] + numbers[3] <= 7
]


def size(numbers):
    return numbers[0] + 2 * numbers[1] + numbers[2] + numbers[3]


def some_sinks(chance, net):
    many = chance.randrange(1, min(6, net.points - 1) + 1)
    return tuple(sorted(chance.sample(range(1, net.points), many)))


def drawn(seed, most_links=12):
    chance = random.Random(seed)
    yield from ((FLY, (5, 6)), (BARE, (1, 3)), (THREE, (1,)), (SEVEN, (1,)), (STAR, (1, 2, 3)), (SIX, (1, 2)))
    for net in drawn_nets(seed, most_links):
        yield net, some_sinks(chance, net)
    for points in (3, 4, 5):
        net = Net(points, tuple(sorted(random_net(chance, points, 4).links + ((0, 1),) * 4 + ((1, 2),) * 3)))
        yield net, some_sinks(chance, net)
        yield net, (1, 2)


def own_tells(net, code, sink, t, s):
    return all(has_reader(net, code, sink, silent, lot) for silent, lot in choices(net, t, s))


def own_keeps(net, code, sinks, t, s, k):
    """By ranks, for all choices and all lots."""
    return all(own_hides(net, code, lot) for lot in own_lots(net, k)) and all(own_tells(net, code, sink, t, s) for sink in sinks)


class Examples(unittest.TestCase):
    def test_examples(self):
        run_examples(self, EXAMPLES, {**vars(nets), **vars(fields), **vars(plans)})


class PlanOrCut(unittest.TestCase):
    def check(self, net, sinks, numbers, q, least):
        n = size(numbers)
        if n > 6:
            told(self, plan_or_cut, [net, sinks, numbers, q], errors.TooMany)
            return "many"
        if least >= n and q < len(sinks):
            told(self, plan_or_cut, [net, sinks, numbers, q], errors.Refused)
            return "refused"
        answer = plan_or_cut(net, sinks, numbers, q)
        self.assertEqual(answer[0], "cut" if least < n else "plan")
        if answer[0] == "cut":
            _, sink, cut = answer
            self.assertEqual(len(answer), 3)
            self.assertIn(sink, sinks)
            self.assertIn(cut, all_cuts(net, sink))
            self.assertLess(len(own_cut_links(net, cut)), n)
            return "cut small" if q < len(sinks) else "cut"
        code = answer[1]
        self.assertEqual(len(answer), 2)
        self.assertIs(is_code(net, code), True)
        self.assertEqual([code[0].q, code[3]], [q, numbers[0]])
        return "plan"

    def test_which_one_is_due(self):
        seen, chance = set(), random.Random(151)
        for net, sinks in drawn(152, 20):
            least = min(least_number(net, sink) for sink in sinks)
            self.assertEqual(room(net, sinks), least)
            for numbers in NUMBERS:
                for q in {2, chance.choice(BASES)}:
                    seen.add((self.check(net, sinks, numbers, q, least), size(numbers)))
        for n in range(1, 7):
            self.assertTrue({("plan", n), ("cut", n)} <= seen)
        self.assertIn(("many", 7), seen)
        self.assertEqual({entry[0] for entry in seen}, {"plan", "cut", "cut small", "refused", "many"})

    def test_plans_keep_the_numbers(self):
        kept = {}
        chance = random.Random(153)
        for net, sinks in drawn(154, 9):
            if len(net.links) > 10:
                continue
            least = min(least_number(net, sink) for sink in sinks)
            for numbers in NUMBERS:
                q = chance.choice(BASES)
                if size(numbers) <= min(least, 6) and q >= len(sinks):
                    answer = plan_or_cut(net, sinks, numbers, q)
                    self.assertIs(is_plan_or_cut(net, sinks, numbers, q, answer), True)
                    kept.setdefault(numbers, []).append((net, sinks, q, answer[1]))
        self.assertEqual(len(kept), len([numbers for numbers in NUMBERS if size(numbers) <= 6]))
        for numbers, made in kept.items():
            net, sinks, q, code = min(made, key=lambda entry: (len(entry[0].links), entry[2]))
            if len(net.links) < 8 and q ** size(numbers) < 800:
                self.assertTrue(own_keeps(net, code, sinks, *numbers[1:]), numbers)

    def test_plans_by_all_sendings(self):
        """[0.15]: in small fields all messages, drawn words, wrong and silent links are tried."""
        two = Net(3, ((0, 1), (0, 1), (1, 2), (1, 2)))
        for net, sinks, numbers, q in (
            (two, (1, 2), (1, 0, 1, 0), 2), (two, (1, 2), (1, 0, 0, 1), 2), (two, (1, 2), (2, 0, 0, 0), 2), (two, (2,), (1, 0, 0, 1), 3),
            (THREE, (1,), (1, 1, 0, 0), 2), (THREE, (1,), (1, 0, 1, 1), 2), (THREE, (1,), (1, 0, 2, 0), 2), (THREE, (1,), (2, 0, 0, 1), 2),
            (FLY, (5, 6), (1, 0, 1, 0), 2), (FLY, (5, 6), (1, 0, 0, 1), 2), (FLY, (4,), (1, 0, 0, 0), 2),
        ):
            kind, code = plan_or_cut(net, sinks, numbers, q)
            self.assertEqual(kind, "plan")
            own, (r, t, s, k) = own_of(code), numbers
            for sink in sinks:
                self.assertTrue(tells_by_all_sendings(own, net, code, sink, t, s))
            for lot in own_lots(net, k):
                some = [message for message in itertools.product(own.words(), repeat=r)][:9]
                counts = [own_shares(net, code, lot, message) for message in some]
                self.assertTrue(all(count == counts[0] for count in counts))

    def test_no_codes_beyond_a_cut(self):
        """[0.15], [0.16]: of all linear codes of small sizes over small fields none keeps more than a cut lets."""
        line, pair, kept = Net(3, ((0, 1), (0, 1), (1, 2))), Net(2, ((0, 1), (0, 1))), set()
        for net, sink, n, many in ((line, 2, 1, 1), (line, 2, 2, 2), (pair, 1, 1, 2), (pair, 1, 2, 2)):
            widths = [n if tail == 0 else [head for _, head in net.links].count(tail) for tail, _ in net.links]
            words = [(digit,) for digit in range(2)]
            for mixing in itertools.product(*[list(tuples(2, width)) for width in widths]):
                for rows in itertools.product(list(itertools.product(words, repeat=n)), repeat=many):
                    for r in range(1, many + 1):
                        code = (Field(2, 1), mixing, rows, r)
                        for t, s, k in ((0, 0, 0), (0, 1, 0), (1, 0, 0), (0, 0, 1), (0, 1, 1)):
                            if does_keep(net, code, (sink,), t, s, k):
                                self.assertLessEqual(size((r, t, s, k)), least_number(net, sink))
                                kept.add((r, t, s, k))
        self.assertEqual(kept, {(1, 0, 0, 0), (2, 0, 0, 0), (1, 0, 1, 0), (1, 0, 0, 1)})

    def test_numbers_at_their_bounds(self):
        for numbers in ((6, 0, 0, 0), (1, 0, 5, 0), (1, 0, 0, 5), (2, 2, 0, 0), (1, 2, 1, 0), (1, 2, 0, 1), (3, 1, 1, 0)):
            kind, code = plan_or_cut(SIX, (1, 2), numbers, 2)
            self.assertEqual(kind, "plan")
            self.assertIs(does_keep(SIX, code, (1, 2), *numbers[1:]), True)
            self.assertEqual(plan_or_cut(THREE, (1,), numbers, 2)[0], "cut")
        for numbers in ((6, 0, 0, 1), (1, 0, 6, 0), (1, 0, 0, 6), (1, 3, 0, 0), (6, 6, 6, 6), (2, 2, 1, 0), (1, 6, 0, 0)):
            for function, further in ((plan_or_cut, []), (is_plan_or_cut, [0])):
                with self.assertRaises(errors.TooMany) as caught:
                    function(SIX, (1, 2), numbers, 2, *further)
                self.assertEqual(caught.exception.limit, 6)

    def test_refused_tells_the_reason(self):
        for net, sinks, numbers in ((STAR, (1, 2, 3), (1, 0, 0, 0)), (SIX, (1, 2), (6, 0, 0, 0))):
            if len(sinks) > 2:
                with self.assertRaises(errors.Refused) as caught:
                    plan_or_cut(net, sinks, numbers, 2)
                self.assertEqual(caught.exception.reason, ("field",))
                self.assertEqual(plan_or_cut(net, sinks, (2, 0, 0, 0), 2)[0], "cut")
            self.assertEqual(plan_or_cut(net, sinks, numbers, 3)[0], "plan")
        # A code over a smaller base may be there all the same, and is taken.
        said = (Field(2, 1), ((1,), (1,), (1,)), (((1,),),), 1)
        self.assertIs(is_plan_or_cut(STAR, (1, 2, 3), (1, 0, 0, 0), 2, ("plan", said)), True)

    def test_wrong_arguments(self):
        numbers = (1, 0, 1, 0)
        wrong = [
            (errors.InvalidNet, wrong_nets()), (errors.InvalidPoints, wrong_sinks(FLY, (5, 6))),
            (errors.InvalidOperation, [
                *junk(), 0, 1, (), *spoiled(numbers), (0, 0, 1, 0), (7, 0, 0, 0), (1, 7, 0, 0), (1, 0, 7, 0), (1, 0, 0, 7), (1, 0, 0),
                (1, 0, 0, 0, 0), (1, -1, 0, 0), (1, 0, -1, 0), (1, 0, 0, -1), (True, 0, 0, 0), (1, False, 0, 0), (numbers,),
                (1, 0, 10 ** 60, 0), (-1, 1, 0, 0),
            ]),
            (errors.InvalidNumber, wrong_bases()),
        ]
        check_parameters(self, plan_or_cut, [FLY, (5, 6), numbers, 2], wrong)
        check_parameters(self, is_plan_or_cut, [FLY, (5, 6), numbers, 2, 0], [*wrong, None])
        # Too many source words are told behind all these, and ahead of the refusal.
        told(self, plan_or_cut, [STAR, (1, 2, 3), (7, 0, 0, 0), 4], errors.InvalidOperation)
        told(self, plan_or_cut, [STAR, (1, 2, 3), (6, 1, 0, 0), 4], errors.InvalidNumber, [4])
        told(self, plan_or_cut, [STAR, (1, 2, 3), (6, 1, 0, 0), 2], errors.TooMany)
        told(self, plan_or_cut, [STAR, (1, 2, 3), (1, 0, 0, 0), 2], errors.Refused)


class Judged(unittest.TestCase):
    def test_codes_of_ones_own(self):
        for numbers in NUMBERS:
            keeps = numbers[0] == 1 and numbers[3] == 0 and 2 * numbers[1] + numbers[2] <= 2
            if size(numbers) <= 6:
                self.assertIs(is_plan_or_cut(THREE, (1,), numbers, 2, ("plan", SAID)), keeps)
                self.assertIs(is_plan_or_cut(THREE, (1,), numbers, 3, ("plan", SAID)), False)
        field = Field(2, 2)
        mixed = (field, MIXING, (((0, 1), (1, 1)), ((1, 0), (0, 1))), 1)
        for k in range(3):
            self.assertIs(is_plan_or_cut(FLY, (5, 6), (1, 0, 0, k), 2, ("plan", mixed)), own_keeps(FLY, mixed, (5, 6), 0, 0, k))
        # Sizes and degrees of its own.
        self.assertIs(is_plan_or_cut(FLY, (5, 6), (2, 0, 0, 0), 2, ("plan", (Field(2, 1), MIXING, (((1,), (0,)), ((0,), (1,))), 2))), True)
        self.assertIs(is_plan_or_cut(FLY, (5, 6), (2, 0, 0, 0), 2, ("plan", (Field(2, 1), MIXING, (((1,), (0,)), ((1,), (0,))), 2))), False)
        self.assertIs(is_plan_or_cut(THREE, (1,), (1, 0, 0, 0), 2, ("plan", (Field(2, 1), ((1, 0),) * 3, (((1,), (0,)),), 1))), True)

    def test_drawn_codes(self):
        seen, chance = set(), random.Random(155)
        for net, sinks in drawn(156, 6):
            if len(net.links) > 7 or not net.links:
                continue
            for _ in range(12):
                many = chance.randrange(1, 4)
                code = random_code(chance, net, 3, 2, chance.randrange(1, 4), many, chance.randrange(1, many + 1), 2)
                for t, s, k in ((0, 0, 0), (0, 0, 1), (0, 1, 0), (1, 0, 0), (0, 0, 2), (0, 1, 1)):
                    right = own_keeps(net, code, sinks, t, s, k)
                    self.assertIs(does_keep(net, code, sinks, t, s, k), right)
                    numbers = (code[3], t, s, k)
                    if size(numbers) <= 6:
                        self.assertIs(is_plan_or_cut(net, sinks, numbers, 3, ("plan", code)), right)
                        self.assertIs(is_plan_or_cut(net, sinks, numbers, 2, ("plan", code)), False)
                        self.assertIs(is_plan_or_cut(net, sinks, (code[3] + 1, 0, 0, 0), 3, ("plan", code)), False)
                    seen.add((right, t, s, k))
        self.assertTrue({(True, 0, 0, 0), (True, 0, 0, 1), (True, 0, 1, 0), (False, 1, 0, 0), (False, 0, 1, 1)} <= seen)

    def test_all_of_the_sinks_and_of_the_taps(self):
        code = plan_or_cut(FLY, (5,), (1, 0, 0, 1), 2)[1]
        answers = [does_keep(FLY, code, sinks, 0, 0, k) for sinks in ((5,), (6,), (5, 6)) for k in (0, 1, 2)]
        rights = [own_keeps(FLY, code, sinks, 0, 0, k) for sinks in ((5,), (6,), (5, 6)) for k in (0, 1, 2)]
        self.assertEqual(answers, rights)
        self.assertEqual(answers[:3], [True, True, False])

    def test_all_cuts_judged(self):
        seen = set()
        for net, sinks in drawn(157, 9):
            if net.points > 5:
                continue
            for sink in range(1, net.points):
                for cut in subsets(range(net.points)):
                    for numbers in ((1, 0, 0, 0), (1, 0, 0, 1), (1, 1, 0, 0), (1, 0, 2, 3), (2, 1, 1, 1)):
                        right = sink in sinks and cut in all_cuts(net, sink) and len(own_cut_links(net, cut)) < size(numbers)
                        self.assertIs(is_plan_or_cut(net, sinks, numbers, 7, ("cut", sink, cut)), right)
                        seen.add((right, sink in sinks))
        self.assertEqual(seen, {(True, True), (False, True), (False, False)})

    def test_values_of_any_kind(self):
        arguments = [THREE, (1,), (1, 1, 0, 0), 2]
        self.assertIs(is_plan_or_cut(*arguments, ("plan", SAID)), True)
        values = [
            *pairs_of("plan", "cut"), *[("plan", value) for value in wrong_codes(THREE, SAID)], SAID, ["plan", SAID], ("code", SAID),
            ("plan", SAID, ()), ("Plan", SAID), ("cut", SAID), ("cut", 1, (0,)), ("cut", 1, SAID), ("plan", 1, (0,)), ("plan", *SAID),
            ("plan", (Field(3, 1), *SAID[1:])), ("plan", (*SAID[:2], (((0,),),), 1)), ("plan", (*SAID[:2], (((1,),), ((1,),)), 2)),
        ]
        check_judge(self, is_plan_or_cut, arguments, values)
        cut, arguments = (0, 1, 2, 3, 4, 6), [FLY, (5, 6), (1, 1, 0, 0), 3]
        self.assertIs(is_plan_or_cut(*arguments, ("cut", 5, cut)), True)
        values = [
            *[("cut", 5, value) for value in spoiled(cut)], *[("cut", value, cut) for value in [*junk(), "5", (5,), 4, 6, 0]], ("cut", cut),
            ("cut", 5, cut, 0), ["cut", 5, cut], ("plan", 5, cut), ("cut", 5), ("cut", 5, (0, 1, 2, 3, 4, 5, 6)), ("cut", 5, ()),
            ("cut", 5, (1, 2, 3, 4, 6)), ("cut", 5, (0, 1, 2, 3, 6, 4)), ("cut", 5, (0, 1, 2)),
        ]
        check_judge(self, is_plan_or_cut, arguments, values)

    def test_too_many_choices_and_lots(self):
        said = (Field(2, 1), ((1,),) * 20, (((1,),),), 1)
        for numbers, limit in (
            ((1, 2, 1, 0), 20000), ((2, 1, 2, 0), 20000), ((1, 1, 3, 0), 20000), ((1, 2, 0, 0), None), ((1, 0, 5, 0), None),
            ((1, 0, 0, 5), None), ((1, 1, 1, 1), None), ((3, 1, 1, 0), None), ((1, 2, 1, 1), 6), ((1, 0, 6, 0), 6),
        ):
            for value in (0, ("cut", 1, (0,)), ("plan", 0), ("plan", None), None):
                if limit is None:
                    self.assertIs(is_plan_or_cut(FULL, (1,), numbers, 2, value), False)
                else:
                    with self.assertRaises(errors.TooMany) as caught:
                        is_plan_or_cut(FULL, (1,), numbers, 2, value)
                    self.assertEqual(caught.exception.limit, limit)
            if limit != 6:
                self.assertEqual(plan_or_cut(FULL, (1,), numbers, 2)[0], "plan")
        for t, s, k in ((0, 0, 6), (3, 0, 0), (0, 6, 0), (2, 1, 0), (1, 2, 0), (6, 6, 6), (3, 0, 1)):
            with self.assertRaises(errors.TooMany) as caught:
                does_keep(FULL, said, (1,), t, s, k)
            self.assertEqual(caught.exception.limit, 20000)
        for t, s, k in ((0, 0, 5), (0, 0, 1), (2, 0, 1), (1, 1, 4)):
            self.assertIs(does_keep(FULL, said, (1,), t, s, k), False)
        self.assertIs(does_keep(FULL, said, (1,), 1, 0, 0), True)
        told(self, does_keep, [FULL, said, (1,), 7, 0, 6], errors.InvalidNumber, [7])
        told(self, does_keep, [FULL, said, (2,), 3, 0, 6], errors.InvalidPoints)

    def test_wrong_arguments(self):
        code = (Field(2, 2), MIXING, (((0, 1), (1, 1)), ((1, 0), (1, 1))), 1)
        number = (errors.InvalidNumber, wrong_numbers(6))
        check_parameters(self, does_keep, [FLY, code, (5, 6), 0, 1, 1], [
            (errors.InvalidNet, wrong_nets()), (errors.InvalidCode, wrong_codes(FLY, code)[::2]),
            (errors.InvalidPoints, wrong_sinks(FLY, (5, 6))), number, number, number,
        ])


class Rooms(unittest.TestCase):
    def test_by_all_cuts(self):
        seen = set()
        for net, sinks in (*drawn(158, 20), (FULL, (1,)), (SIX, (1,))):
            least = min(least_number(net, sink) for sink in sinks)
            self.assertEqual(room(net, sinks), least)
            right = tuple(numbers for numbers in sorted(NUMBERS) if size(numbers) == least)
            seen.add(min(least, 7))
            if least > 6:
                with self.assertRaises(errors.TooMany) as caught:
                    frontier(net, sinks)
                self.assertEqual(caught.exception.limit, 6)
            else:
                self.assertEqual(frontier(net, sinks), right)
        self.assertTrue({0, 1, 2, 3, 6, 7} <= seen)

    def test_small_ones(self):
        self.assertEqual([room(BARE, (1, 2, 3)), frontier(BARE, (1, 2, 3))], [0, ()])
        self.assertEqual([room(STAR, (1, 3)), frontier(STAR, (1, 3))], [1, ((1, 0, 0, 0),)])
        wanted = ((1, 0, 0, 2), (1, 0, 1, 1), (1, 0, 2, 0), (1, 1, 0, 0), (2, 0, 0, 1), (2, 0, 1, 0), (3, 0, 0, 0))
        self.assertEqual(frontier(THREE, (1,)), wanted)
        self.assertEqual(len(frontier(SIX, (1, 2))), len([numbers for numbers in NUMBERS if size(numbers) == 6]))

    def test_just_what_the_room_lets(self):
        """[13.4]"""
        for net, sinks in ((FLY, (5, 6)), (THREE, (1,)), (STAR, (1, 2, 3)), (BARE, (2,)), (SIX, (1, 2))):
            most = room(net, sinks)
            for numbers in NUMBERS:
                if size(numbers) <= 6:
                    kind = plan_or_cut(net, sinks, numbers, 7)[0]
                    self.assertEqual(kind, "plan" if size(numbers) <= most else "cut")

    def test_wrong_arguments(self):
        wrong = [(errors.InvalidNet, wrong_nets()), (errors.InvalidPoints, wrong_sinks(FLY, (5, 6)))]
        for function in (room, frontier):
            check_parameters(self, function, [FLY, (5, 6)], wrong)


class NoneIsTrue(unittest.TestCase):
    """[13.5], and [0.18] as far as it reaches here."""

    def test_plan_keeps_other_numbers_too(self):
        code = plan_or_cut(THREE, (1,), (1, 1, 0, 0), 2)[1]
        self.assertIs(does_keep(THREE, code, (1,), 1, 0, 0), True)
        self.assertIs(does_keep(THREE, code, (1,), 0, 2, 0), True)

    def test_as_many_drawn_words_as_taps_that_hide_nothing(self):
        code = (Field(2, 1), ((1, 0), (0, 1), (1, 1)), (((1,), (0,)), ((0,), (0,))), 1)
        self.assertIs(does_hide(THREE, code, 1), False)

    def test_unlike_rows_that_keep_the_same(self):
        one = (Field(2, 2), ((1,),) * 3, (((1, 0),),), 1)
        other = (Field(2, 2), ((1,),) * 3, (((0, 1),),), 1)
        for t, s, k in itertools.product(range(2), range(4), range(3)):
            self.assertEqual(does_keep(THREE, one, (1,), t, s, k), does_keep(THREE, other, (1,), t, s, k))

    def test_no_fewer_message_words_than_one(self):
        self.assertEqual(plan_or_cut(THREE, (1,), (1, 1, 0, 0), 2)[0], "plan")
        self.assertEqual(plan_or_cut(THREE, (1,), (1, 1, 0, 1), 2)[0], "cut")

    def test_greater_least_cut_for_one_sink_alone(self):
        one, other = Net(3, ((0, 1), (0, 2))), Net(3, ((0, 1), (0, 2), (0, 2)))
        self.assertEqual([room(one, (2,)), room(other, (2,)), room(one, (1, 2)), room(other, (1, 2))], [1, 2, 1, 1])

    def test_without_mixing_fewer_words_come_to_all_sinks(self):
        """Links that just pass on one of the words: over FLY point 3 has to choose between two of them."""
        choice = [((1, 0), (0, 1)) if tail == 0 else ((1,),) for tail, _ in FLY.links]
        choice[6] = ((1, 0), (0, 1))
        for code in itertools.product(*choice):
            self.assertIs(is_for_all(FLY, (5, 6), 2, 2, code), False)
        self.assertIs(is_for_all(FLY, (5, 6), 2, 2, MIXING), True)

    def test_what_is_told_with_silent_links_is_not_told_with_wrong_ones(self):
        net = Net(3, ((0, 1),) * 4 + ((1, 2),) * 3)
        mixing = ((0,), (1,), (1,), (1,), (1, 1, 0, 0), (1, 0, 1, 0), (1, 0, 0, 1))
        code = (Field(2, 1), mixing, (((1,),),), 1)
        self.assertEqual([does_tell(net, code, 2, 0, 2), does_tell(net, code, 2, 1, 0)], [True, False])
        self.assertEqual(len(own_field(2, 1).words()), 2)
