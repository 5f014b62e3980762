"""Stage 15: without mixing."""

import itertools
import random
import unittest

from rowsthrough import errors
from rowsthrough.link.linkcodes import is_link_code, sink_rank, vectors
from rowsthrough.net import nets, plain
from rowsthrough.net.nets import Net
from rowsthrough.net.plain import (
    MOST_LABELS, gets, greatest_plain, is_plain, is_to_all, is_to_one, plain_code, to_all, to_one, to_some, trees,
)
from tests.helper import (
    all_cuts, all_ways, check_judge, check_parameters, drawn_nets, junk, least_number, own_cut_links, own_into,
    own_units,
    own_vectors, pairs_of, run_examples, spoiled, subsets, told, wrong_nets, wrong_points, wrong_sinks, wrong_sizes,
)

EXAMPLES = """
>>> BUTTERFLY = Net(7, ((0, 1), (0, 2), (1, 3), (1, 5), (2, 3), (2, 6), (3, 4), (4, 5), (4, 6)))
>>> [to_some(BUTTERFLY, 2, (5, 6)), greatest_plain(BUTTERFLY, (5, 6)), to_one(BUTTERFLY, 2, 5)[0], to_all(BUTTERFLY, 2)]
[('none',), 1, 'plan', ('point', 1)]
>>> PLAN = (0, 1, 0, 0, 1, 1, 0, None, 0)
>>> [is_plain(BUTTERFLY, 2, PLAN), gets(BUTTERFLY, 2, PLAN, 6), gets(BUTTERFLY, 2, PLAN, 5), trees(BUTTERFLY, 2, PLAN)[1], is_plain(BUTTERFLY, 2, (0, 1, 1) + PLAN[3:])]
[True, (0, 1), (0,), (1, 4, 5), False]
>>> [plain_code(BUTTERFLY, 2, PLAN)[:2], plain_code(BUTTERFLY, 2, PLAN)[6:], is_to_one(BUTTERFLY, 3, 5, ("cut", (0, 1, 2, 3, 4, 6)))]
[((1, 0), (0, 1)), ((1, 0), (0,), (1,)), True]
"""

BUTTERFLY = Net(7, ((0, 1), (0, 2), (1, 3), (1, 5), (2, 3), (2, 6), (3, 4), (4, 5), (4, 6)))
PLAN = (0, 1, 0, 0, 1, 1, 0, None, 0)
BARE = Net(3, ())
# Three parallel links, two behind them, and a point that nothing leads to.
WIDE = Net(4, ((0, 1), (0, 1), (0, 1), (1, 3), (1, 3), (2, 3)))
# Small nets in which one word or two come to some points.
SMALL = (
    BARE, WIDE, Net(3, ((0, 1), (0, 2), (1, 2))), Net(4, ((0, 1), (0, 2), (0, 3), (1, 3), (2, 3))),
    Net(2, ((0, 1),) * 4),
    Net(4, ((0, 1), (0, 1), (1, 2), (1, 2), (1, 3), (2, 3))),
    Net(5, ((0, 1), (0, 2), (1, 3), (2, 3), (2, 4), (3, 4))),
    Net(4, ((0, 1), (0, 2), (0, 3))), Net(3, ((0, 1), (0, 1), (0, 2), (0, 2), (1, 2))),
)


def own_gets(net, plan, point):
    return {plan[link] for link in own_into(net, point)} - {None}


def own_is_plain(net, plan):
    return all(word is None or tail == 0 or word in own_gets(net, plan, tail) for (tail, _), word in zip(net.links, plan))


def all_plans(net, n):
    """All plain plans, by trying all words and none on each link."""
    for plan in itertools.product((None, *range(n)), repeat=len(net.links)):
        if own_is_plain(net, plan):
            yield plan


def own_plan(chance, net, n):
    """A drawn plain plan."""
    plan = [None] * len(net.links)
    for index, (tail, _) in enumerate(net.links):
        words = list(range(n)) if tail == 0 else sorted(own_gets(net, plan, tail))
        plan[index] = chance.choice([None, *words, *words])
    return tuple(plan)


def drawn_plans(seed):
    chance = random.Random(seed)
    for net in (BUTTERFLY, *SMALL, *drawn_nets(seed)):
        for n in range(1, 7):
            yield net, n, own_plan(chance, net, n)


def are_own_labels(net, n, value):
    """The judge of values of any kind."""
    if type(value) is not tuple or len(value) != len(net.links):
        return False
    return all(word is None or type(word) is int and 0 <= word < n for word in value) and own_is_plain(net, value)


def wrong_plans(net, n, right):
    """No plain plans."""
    found = [*junk(), 0, 1, *spoiled(right), right[:-1], (*right, None), (*right, 0), list(right), (right,), "0" * len(right)]
    for place in range(len(right)):
        for wrong in (n, -1, True, False, "0", (0,), 7):
            found.append((*right[:place], wrong, *right[place + 1:]))
    return [value for value in found if not are_own_labels(net, n, value)]


class Examples(unittest.TestCase):
    def test_examples(self):
        run_examples(self, EXAMPLES, {**vars(nets), **vars(plain)})

    def test_constant(self):
        self.assertEqual(MOST_LABELS, 100000)


class Plans(unittest.TestCase):
    def test_all_labels_judged(self):
        seen = set()
        for net in SMALL:
            for n in (1, 2):
                for value in itertools.product((None, *range(n)), repeat=len(net.links)):
                    right = own_is_plain(net, value)
                    self.assertIs(is_plain(net, n, value), right)
                    seen.add((right, None in value))
                    if not right:
                        for function, further in ((gets, [1]), (plain_code, []), (trees, [])):
                            told(self, function, [net, n, value, *further], errors.InvalidOperation)
        self.assertEqual(seen, {(True, True), (True, False), (False, True), (False, False)})

    def test_one_link_bent(self):
        """A link that carries a word which no link into its tail does."""
        seen, chance = set(), random.Random(191)
        for net, n, plan in drawn_plans(192):
            self.assertIs(is_plain(net, n, plan), True)
            for link in range(len(net.links)):
                word = chance.choice((None, *range(n)))
                bent = (*plan[:link], word, *plan[link + 1:])
                self.assertIs(is_plain(net, n, bent), own_is_plain(net, bent))
                seen.add((own_is_plain(net, bent), word is None))
        self.assertEqual(seen, {(True, True), (True, False), (False, True), (False, False)})

    def test_what_points_get(self):
        numbers = set()
        for net, n, plan in drawn_plans(193):
            for point in range(1, net.points):
                found = gets(net, n, plan, point)
                self.assertEqual(found, tuple(sorted(own_gets(net, plan, point))))
                numbers.add(len(found))
        self.assertEqual(numbers, {0, 1, 2, 3, 4, 5} & numbers)
        self.assertTrue({0, 1, 2, 3} <= numbers)
        self.assertEqual([gets(WIDE, 3, (2, 0, 2, 0, None, None), point) for point in (1, 2, 3)], [(0, 2), (), (0,)])

    def test_values_of_any_kind(self):
        self.assertIs(is_plain(BUTTERFLY, 2, PLAN), True)
        check_judge(self, is_plain, [BUTTERFLY, 2], wrong_plans(BUTTERFLY, 2, PLAN))
        check_judge(self, is_plain, [BUTTERFLY, 1], [PLAN])
        self.assertIs(is_plain(BARE, 6, ()), True)
        self.assertIs(is_plain(BARE, 6, []), False)

    def test_wrong_arguments(self):
        begun = [(errors.InvalidNet, wrong_nets()), (errors.InvalidNumber, wrong_sizes())]
        plans = (errors.InvalidOperation, wrong_plans(BUTTERFLY, 2, PLAN))
        check_parameters(self, is_plain, [BUTTERFLY, 2, 0], [*begun, None])
        check_parameters(self, gets, [BUTTERFLY, 2, PLAN, 6], [*begun, plans, (errors.InvalidNumber, wrong_points(BUTTERFLY))])
        for function in (plain_code, trees):
            check_parameters(self, function, [BUTTERFLY, 2, PLAN], [*begun, plans])


class AsLinkCodes(unittest.TestCase):
    def test_vectors(self):
        """[15.2]: over each base each link carries the source word that the plan tells."""
        for net, n, plan in drawn_plans(194):
            code, units = plain_code(net, n, plan), own_units(n)
            wanted = tuple((0,) * n if word is None else units[word] for word in plan)
            for q in (2, 3, 13):
                self.assertIs(is_link_code(net, q, n, code), True)
                self.assertEqual(own_vectors(net, q, n, code), wanted)
                self.assertEqual(vectors(net, q, n, code), wanted)
                for point in range(1, net.points):
                    self.assertEqual(sink_rank(net, q, n, code, point), len(gets(net, n, plan, point)))

    def test_numbers_of_each_link(self):
        """One alone, at the word or at the first link into the tail that carries it."""
        several = 0
        for net, n, plan in drawn_plans(195):
            for (tail, _), word, numbers in zip(net.links, plan, plain_code(net, n, plan)):
                ahead = range(n) if tail == 0 else [plan[link] for link in own_into(net, tail)]
                place = None if word is None else list(ahead).index(word)
                self.assertEqual(numbers, tuple(int(further == place) for further in range(len(ahead))))
                several += tail > 0 and word is not None and list(ahead).count(word) > 1
        self.assertGreater(several, 20)
        self.assertEqual(plain_code(WIDE, 2, (1, 0, 0, 0, 1, None)), ((0, 1), (1, 0), (1, 0), (0, 1, 0), (1, 0, 0), ()))


class Trees(unittest.TestCase):
    def test_links_of_each_word(self):
        for net, n, plan in drawn_plans(196):
            found = trees(net, n, plan)
            self.assertEqual(found, tuple(tuple(link for link, word in enumerate(plan) if word == one) for one in range(n)))
            # They make a way from 0 to each point that gets the word.
            for word, links in enumerate(found):
                inner = Net(net.points, tuple(net.links[link] for link in links))
                for point in range(1, net.points):
                    self.assertEqual(bool(all_ways(inner, 0, point)), word in own_gets(net, plan, point))

    def test_all_words_to_all_sinks(self):
        plan = to_some(WIDE, 2, (1, 3))[1]
        one, other = trees(WIDE, 2, plan)
        self.assertFalse(set(one) & set(other))
        for links in (one, other):
            inner = Net(4, tuple(WIDE.links[link] for link in links))
            self.assertTrue(all_ways(inner, 0, 1) and all_ways(inner, 0, 3))


class ToOne(unittest.TestCase):
    def test_which_one_is_due(self):
        seen = set()
        for net in (BUTTERFLY, *SMALL, *drawn_nets(197)):
            for sink in range(1, net.points):
                least = least_number(net, sink)
                for n in range(1, 7):
                    answer = to_one(net, n, sink)
                    self.assertEqual((answer[0], len(answer)), ("plan" if least >= n else "cut", 2))
                    if least >= n:
                        self.assertTrue(own_is_plain(net, answer[1]))
                        self.assertEqual(own_gets(net, answer[1], sink), set(range(n)))
                    else:
                        self.assertIn(answer[1], all_cuts(net, sink))
                        self.assertLess(len(own_cut_links(net, answer[1])), n)
                    self.assertIs(is_to_one(net, n, sink, answer), True)
                    seen.add((answer[0], n))
        self.assertTrue({("plan", 1), ("plan", 2), ("plan", 3), ("cut", 1), ("cut", 6)} <= seen)

    def test_all_plans_and_cuts_judged(self):
        seen = set()
        for net in SMALL:
            for sink in range(1, net.points):
                for n in (1, 2):
                    for value in itertools.product((None, *range(n)), repeat=len(net.links)):
                        right = own_is_plain(net, value) and len(own_gets(net, value, sink)) == n
                        self.assertIs(is_to_one(net, n, sink, ("plan", value)), right)
                        seen.add(("plan", right))
                for cut, n in itertools.product(subsets(range(net.points)), (1, 2, 4)):
                    right = cut in all_cuts(net, sink) and len(own_cut_links(net, cut)) < n
                    self.assertIs(is_to_one(net, n, sink, ("cut", cut)), right)
                    seen.add(("cut", right))
        self.assertEqual(seen, {("plan", True), ("plan", False), ("cut", True), ("cut", False)})

    def test_values_of_any_kind(self):
        plan, cut = (0, 1, 0, 0, 1, None, 1, 1, None), (0, 1, 2, 3, 4, 6)
        for arguments, kind, right, wrong in (
            ([BUTTERFLY, 2, 5], "plan", plan, PLAN), ([BUTTERFLY, 3, 5], "cut", cut, (0, 1, 2, 3, 5)),
        ):
            self.assertIs(is_to_one(*arguments, (kind, right)), True)
            values = [
                *pairs_of("plan", "cut", "point"), right, [kind, right], (kind, right, 0), (kind.upper(), right),
                ("point", 1), (kind, wrong),
                *[(kind, value) for value in spoiled(right) if kind == "cut" or not are_own_labels(BUTTERFLY, 2, value)],
                ("plan", plan[:-1]), ("cut", 5, cut), ("none",), ("plan", PLAN[:3] + (None,) * 6),
            ]
            check_judge(self, is_to_one, arguments, values)

    def test_wrong_arguments(self):
        wrong = [
            (errors.InvalidNet, wrong_nets()), (errors.InvalidNumber, wrong_sizes()),
            (errors.InvalidNumber, wrong_points(BUTTERFLY)),
        ]
        check_parameters(self, to_one, [BUTTERFLY, 2, 5], wrong)
        check_parameters(self, is_to_one, [BUTTERFLY, 2, 5, 0], [*wrong, None])


class ToAll(unittest.TestCase):
    def test_which_one_is_due(self):
        seen = set()
        full = Net(
            5,
            tuple(sorted([(0, 1)] * 4 + [(0, 2), (1, 2), (1, 2)] + [(1, 3), (2, 3)] * 2 + [(0, 4), (2, 4), (3, 4), (3, 4)])),
        )
        for net in (BUTTERFLY, full, *SMALL, *drawn_nets(198)):
            few = [len(own_into(net, point)) for point in range(1, net.points)]
            for n in range(1, 7):
                answer = to_all(net, n)
                if min(few) >= n:
                    kind, plan = answer
                    self.assertEqual(kind, "plan")
                    self.assertTrue(own_is_plain(net, plan))
                    for point in range(1, net.points):
                        self.assertEqual(own_gets(net, plan, point), set(range(n)))
                else:
                    least = min(point for point in range(1, net.points) if few[point - 1] < n)
                    self.assertEqual(answer, ("point", least))
                self.assertIs(is_to_all(net, n, answer), True)
                seen.add((answer[0], n))
        self.assertTrue({("plan", 1), ("plan", 2), ("plan", 3), ("point", 1), ("point", 6)} <= seen)

    def test_all_plans_and_points_judged(self):
        seen = set()
        for net in SMALL:
            for n in (1, 2):
                for value in itertools.product((None, *range(n)), repeat=len(net.links)):
                    right = own_is_plain(net, value) and all(len(own_gets(net, value, point)) == n for point in range(1, net.points))
                    self.assertIs(is_to_all(net, n, ("plan", value)), right)
                    seen.add(("plan", right))
            for n, point in itertools.product(range(1, 7), range(12)):
                right = 1 <= point < net.points and len(own_into(net, point)) < n
                self.assertIs(is_to_all(net, n, ("point", point)), right)
                seen.add(("point", right))
        self.assertEqual(seen, {("plan", True), ("plan", False), ("point", True), ("point", False)})

    def test_values_of_any_kind(self):
        values = [
            *[pair for pair in pairs_of("plan", "point", "none") if pair[1] != 1 or pair[1] is True], ("point", True),
            ("point", (1,)), ("point", [1]), ("point", 0), ("point", 7), ("point", 1, 0),
            ["point", 1], ("points", 1), 1, ("point",), ("cut", (0, 2, 3, 4, 5, 6)),
        ]
        self.assertIs(is_to_all(BUTTERFLY, 2, ("point", 1)), True)
        check_judge(self, is_to_all, [BUTTERFLY, 2], values)
        double = Net(3, ((0, 1), (0, 1), (1, 2), (1, 2)))
        self.assertIs(is_to_all(double, 2, ("plan", (1, 0, 1, 0))), True)
        values = [
            *values, ("point", 1), *[("plan", value) for value in spoiled((1, 0, 1, 0))], ("plan", (1, 0, 1, 1)),
            ("plan", (1, 1, 1, 0)), (1, 0, 1, 0),
        ]
        check_judge(self, is_to_all, [double, 2], values)

    def test_wrong_arguments(self):
        wrong = [(errors.InvalidNet, wrong_nets()), (errors.InvalidNumber, wrong_sizes())]
        check_parameters(self, to_all, [BUTTERFLY, 2], wrong)
        check_parameters(self, is_to_all, [BUTTERFLY, 2, 0], [*wrong, None])


class ToSome(unittest.TestCase):
    def questions(self):
        chance = random.Random(199)
        for net in (*SMALL, *drawn_nets(200, 7, 6)):
            points = range(1, net.points)
            for _ in range(3):
                many = chance.randrange(1, min(4, net.points))
                yield net, tuple(sorted(chance.sample(points, many)))
            yield net, tuple(points)[:6]

    def test_by_all_plans(self):
        seen = set()
        for net, sinks in self.questions():
            greatest = 0
            for n in range(1, 7):
                if (n + 1) ** len(net.links) > 100000:
                    told(self, to_some, [net, n, sinks], errors.TooMany)
                    seen.add("many")
                    continue
                due = (n + 1) ** len(net.links) < 20000 and any(
                    all(len(own_gets(net, plan, sink)) == n for sink in sinks) for plan in all_plans(net, n)
                )
                answer = to_some(net, n, sinks)
                if (n + 1) ** len(net.links) < 20000:
                    self.assertEqual(answer[0], "plan" if due else "none")
                if answer[0] == "plan":
                    self.assertEqual(len(answer), 2)
                    self.assertTrue(own_is_plain(net, answer[1]))
                    self.assertTrue(all(own_gets(net, answer[1], sink) == set(range(n)) for sink in sinks))
                    greatest = n
                else:
                    self.assertEqual(answer, ("none",))
                seen.add((answer[0], n, len(sinks) > 1))
            least = min(6, *[least_number(net, sink) for sink in sinks])
            if (least + 1) ** len(net.links) <= 100000:
                self.assertEqual(greatest_plain(net, sinks), greatest)
                seen.add(("greatest", greatest))
        self.assertTrue({
            ("plan", 1, True), ("plan", 2, True), ("none", 1, True), ("none", 2, True), ("plan", 3, False), "many",
        } <= seen)
        self.assertTrue({("greatest", 0), ("greatest", 1), ("greatest", 2), ("greatest", 3)} <= seen)

    def test_a_link_has_to_choose(self):
        """[15.6], and plans that are found late."""
        self.assertEqual([to_some(BUTTERFLY, 2, (sink,))[0] for sink in (4, 5, 6)], ["none", "plan", "plan"])
        self.assertEqual(to_some(BUTTERFLY, 1, (3, 4, 5, 6))[0], "plan")
        # Point 3 must hand on the word that does not come to point 4 by the other link.
        net = Net(5, ((0, 1), (0, 2), (1, 3), (2, 3), (2, 4), (3, 4)))
        for sinks in ((3,), (4,), (3, 4)):
            kind, plan = to_some(net, 2, sinks)
            self.assertEqual(kind, "plan")
            self.assertTrue(all(own_gets(net, plan, sink) == {0, 1} for sink in sinks))

    def test_bounds(self):
        for n, many in ((1, 16), (2, 10), (3, 8), (4, 7), (5, 6), (6, 5)):
            for net in (Net(2, ((0, 1),) * many), Net(3, ((0, 1),) * (many - 1) + ((1, 2),))):
                self.assertEqual(to_some(net, n, (1,))[0], "plan" if len(own_into(net, 1)) >= n else "none")
            net = Net(2, ((0, 1),) * (many + 1))
            for sinks, wanted in (((1,), errors.TooMany), ((2,), errors.InvalidPoints)):
                told(self, to_some, [net, n, sinks], wanted)
            with self.assertRaises(errors.TooMany) as caught:
                to_some(net, n, (1,))
            self.assertEqual(caught.exception.limit, 100000)

    def test_bounds_of_the_greatest(self):
        """c is the least of all cuts for the sinks, counted up to 6."""
        # With c = 0 or 1 up to 20 or 16 links are let; with c = 6 and above it five are, so never.
        for begun, wanted in ((0, 0), (1, 1), (2, 2), (3, 3)):
            most = {0: 20, 1: 16, 2: 10, 3: 8}[begun]
            for many in (most, most + 1):
                if many > 20:
                    continue
                net = Net(4, ((0, 1),) * (many - begun) + ((0, 3),) * begun)
                for sinks in ((3,), (1, 3)):
                    if many == most:
                        self.assertEqual(greatest_plain(net, sinks), min(wanted, many - begun))
                    else:
                        with self.assertRaises(errors.TooMany) as caught:
                            greatest_plain(net, sinks)
                        self.assertEqual(caught.exception.limit, 100000)
        self.assertEqual([greatest_plain(Net(2, ((0, 1),) * many), (1,)) for many in (1, 2, 3, 4, 5)], [1, 2, 3, 4, 5])
        for many in (6, 7, 20):
            told(self, greatest_plain, [Net(2, ((0, 1),) * many), (1,)], errors.TooMany)
        # The least cut of the sinks counts, not the greatest one.
        self.assertEqual(greatest_plain(Net(3, ((0, 1),) * 15 + ((0, 2),)), (1, 2)), 1)

    def test_wrong_arguments(self):
        nets_and_sinks = [(errors.InvalidNet, wrong_nets()), (errors.InvalidPoints, wrong_sinks(BUTTERFLY, (5, 6)))]
        check_parameters(self, greatest_plain, [BUTTERFLY, (5, 6)], nets_and_sinks)
        check_parameters(
            self, to_some, [BUTTERFLY, 2, (5, 6)],
            [nets_and_sinks[0], (errors.InvalidNumber, wrong_sizes()), nets_and_sinks[1]],
        )
        full = Net(2, ((0, 1),) * 20)
        told(self, greatest_plain, [full, (1, 2)], errors.InvalidPoints)
        told(self, to_some, [full, 0, (1, 2)], errors.InvalidNumber, [0])


class NoneIsTrue(unittest.TestCase):
    """[15.7], and [0.18] as far as it reaches here."""

    def test_two_sinks_that_can_get_it_not_both_at_once(self):
        self.assertEqual([to_one(BUTTERFLY, 2, sink)[0] for sink in (5, 6)], ["plan", "plan"])
        self.assertEqual(to_some(BUTTERFLY, 2, (5, 6)), ("none",))

    def test_a_plan_that_leaves_a_link_out(self):
        net = Net(2, ((0, 1), (0, 1)))
        plan = (0, None)
        self.assertEqual([is_plain(net, 1, plan), gets(net, 1, plan, 1), trees(net, 1, plan)], [True, (0,), ((0,),)])

    def test_trees_that_are_no_ways(self):
        net = Net(3, ((0, 1), (0, 2)))
        kind, plan = to_all(net, 1)
        self.assertEqual([kind, trees(net, 1, plan)], ["plan", ((0, 1),)])
        self.assertFalse(any(set(way) == {0, 1} for point in (1, 2) for way in all_ways(net, 0, point)))
