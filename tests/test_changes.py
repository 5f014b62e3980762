"""Stage 16: nets that change, and how much is kept."""

import itertools
import random
import unittest

from rowsthrough import errors
from rowsthrough.base import fields
from rowsthrough.base.fields import Field
from rowsthrough.bent.telling import does_tell, is_code
from rowsthrough.hide.hiding import does_hide
from rowsthrough.link.linkcodes import carried, vectors
from rowsthrough.net import nets
from rowsthrough.net.nets import Net, with_link
from rowsthrough.whole import changes
from rowsthrough.whole.changes import (
    code_with, code_without, gain, greatest_message, is_gain, is_loss, kept_frontier, loss,
)
from rowsthrough.whole.plans import plan_or_cut, room
from tests.helper import (
    all_cuts, all_ways, check_judge, check_parameters, choices, drawn_nets, has_reader, junk, least_number,
    own_carried,
    own_cut_links, own_into, own_of, pairs_of, random_code, random_link_code, random_words, run_examples,
    spoiled, subsets, told, wrong_codes, wrong_nets, wrong_numbers, wrong_sinks,
)

EXAMPLES = """
>>> TWIN = Net(3, ((0, 1), (0, 1), (0, 2), (1, 2)))
>>> [greatest_message(TWIN, (2,), 0, 0, 1), greatest_message(TWIN, (2,), 1, 0, 0), loss(TWIN, (2,), 2)[0], loss(TWIN, (2,), 0)[0]]
[1, None, 'falls', 'stays']
>>> [gain(TWIN, (2,), 1, 2)[0], gain(TWIN, (2,), 0, 1)[0], is_gain(TWIN, (2,), 0, 1, ("stays", 2, (0, 1))), is_loss(TWIN, (2,), 0, ("falls", 2, (0,)))]
['rises', 'stays', True, False]
>>> PLAIN = (Field(2, 1), ((1,), (0,), (1,), (1, 0)), (((1,),),), 1)
>>> [kept_frontier(TWIN, PLAIN, (2,), 2), code_without(TWIN, PLAIN, 1)[1][1], code_with(TWIN, PLAIN, 0, 2)[0].links]
[(0, 0, -1), ((1,), (1,), (1,)), ((0, 1), (0, 1), (0, 2), (0, 2), (1, 2))]
"""

TWIN = Net(3, ((0, 1), (0, 1), (0, 2), (1, 2)))
PLAIN = (Field(2, 1), ((1,), (0,), (1,), (1, 0)), (((1,),),), 1)
THREE = Net(2, ((0, 1), (0, 1), (0, 1)))
SAID = (Field(2, 1), ((1,), (1,), (1,)), (((1,),),), 1)
FLY = Net(7, ((0, 1), (0, 2), (1, 3), (1, 5), (2, 3), (2, 6), (3, 4), (4, 5), (4, 6)))
FULL = Net(2, ((0, 1),) * 20)
FULL_CODE = (Field(2, 1), ((1,),) * 20, (((1,),),), 1)
BARE = Net(4, ())
# From 0, parallel in the midst, and into a point without links out of it.
MANY = Net(5, ((0, 1), (0, 1), (0, 2), (1, 2), (1, 2), (1, 2), (2, 3), (2, 4)))
MANY_CODE = (
    Field(5, 2), ((1, 2), (3, 4), (0, 1), (1, 2), (3, 4), (1, 0), (1, 2, 3, 4), (4, 3, 2, 1)),
    (((1, 1), (0, 1)), ((1, 0), (2, 2))), 1,
)


def questions(seed, most_links=19):
    chance = random.Random(seed)
    for net in (TWIN, MANY, BARE, *drawn_nets(seed, most_links)):
        for q, m in ((2, 1), (3, 2), (13, 3)):
            many = chance.randrange(1, 5)
            yield net, random_code(chance, net, q, m, chance.randrange(1, 7), many, chance.randrange(1, many + 1))


def own_without(net, code, link):
    """The net and the code, by the test's own tuples."""
    others = [index for index in range(len(net.links)) if index != link]
    mixing = []
    for index in others:
        tail, ahead = net.links[index][0], range(len(code[2][0]))
        if tail:
            ahead = [k for k in own_into(net, tail)]
        kept = [number for k, number in zip(ahead, code[1][index]) if tail == 0 or k != link]
        mixing.append(tuple(kept))
    return Net(net.points, tuple(net.links[index] for index in others)), (code[0], tuple(mixing), *code[2:])


def own_with(net, code, tail, head):
    """Likewise, with a link more: links are told by their old indices, the new one by None."""
    links = sorted(
        [(link, 0, index) for index, link in enumerate(net.links)] + [((tail, head), 1, None)],
        key=lambda entry: entry[:2],
    )
    mixing = []
    for (begin, _), _, index in links:
        ahead = [entry[2] for entry in links if entry[0][1] == begin] if begin else list(range(len(code[2][0])))
        if index is None:
            mixing.append((0,) * len(ahead))
        else:
            left = list(code[1][index])
            mixing.append(tuple(0 if k is None else left.pop(0) for k in ahead))
    return Net(net.points, tuple(entry[0] for entry in links)), (code[0], tuple(mixing), *code[2:])


def own_room(net, sinks):
    return min(least_number(net, sink) for sink in sinks)


def are_own_ways(net, sinks, number, value):
    """So many ways apart for each sink."""
    if len(value) != len(sinks):
        return False
    for sink, ways in zip(sinks, value):
        links = [link for way in ways for link in way]
        if len(ways) != number or len(set(links)) < len(links) or any(way not in all_ways(net, 0, sink) for way in ways):
            return False
    return True


def some_sinks(chance, net):
    points = range(1, net.points)
    return tuple(sorted(chance.sample(points, chance.randrange(1, min(4, net.points)))))


def rooms(seed, most_links=19):
    chance = random.Random(seed)
    shapes = (
        (TWIN, (2,)), (TWIN, (1, 2)), (FLY, (5, 6)), (FLY, (3, 4, 5)), (THREE, (1,)), (MANY, (3, 4)), (MANY, (2,)),
        (BARE, (1, 3)),
        (Net(3, ((0, 1), (0, 1), (1, 2), (1, 2))), (1, 2)), (Net(3, ((0, 1), (0, 1), (1, 2), (1, 2))), (2,)),
        (Net(3, ((0, 1),) * 4 + ((0, 2),) + ((1, 2),) * 2), (1, 2)),
    )
    yield from shapes
    for net in drawn_nets(seed, most_links):
        yield net, some_sinks(chance, net)


class Examples(unittest.TestCase):
    def test_examples(self):
        run_examples(self, EXAMPLES, {**vars(nets), **vars(fields), **vars(changes)})


class LinkLess(unittest.TestCase):
    def test_own_tuples(self):
        seen = set()
        for net, code in questions(211, 20):
            for link, (tail, head) in enumerate(net.links):
                found = code_without(net, code, link)
                self.assertEqual(found, own_without(net, code, link))
                self.assertIs(is_code(*found), True)
                behind = [one for one, _ in net.links if one == head]
                seen.add((tail == 0, bool(behind), net.links.count((tail, head)) > 1))
        self.assertEqual(seen, set(itertools.product((True, False), repeat=3)))

    def test_told_ones(self):
        net, code = code_without(MANY, MANY_CODE, 4)
        self.assertEqual(net.links, ((0, 1), (0, 1), (0, 2), (1, 2), (1, 2), (2, 3), (2, 4)))
        self.assertEqual(code[1], ((1, 2), (3, 4), (0, 1), (1, 2), (1, 0), (1, 2, 4), (4, 3, 1)))
        self.assertEqual([code[0], code[2], code[3]], [MANY_CODE[0], MANY_CODE[2], 1])
        net, code = code_without(MANY, MANY_CODE, 1)
        self.assertEqual(code[1], ((1, 2), (0, 1), (1,), (3,), (1,), (1, 2, 3, 4), (4, 3, 2, 1)))
        self.assertEqual(code_without(MANY, MANY_CODE, 7)[1][1], MANY_CODE[1][:7])

    def test_as_if_it_were_silent(self):
        """The others carry what they do while the link is silent."""
        chance = random.Random(212)
        for net, code in questions(213, 20):
            own, n = own_of(code), len(code[2][0])
            words = random_words(chance, own.q, own.m, n)
            for link in range(len(net.links)):
                less, lesser = code_without(net, code, link)
                found = own_carried(net, own.q, own.m, code[1], words, (), (link,))
                self.assertEqual(carried(less, code[0], n, lesser[1], words), found[:link] + found[link + 1:])

    def test_wrong_arguments(self):
        check_parameters(self, code_without, [MANY, MANY_CODE, 3], [
            (errors.InvalidNet, wrong_nets()), (errors.InvalidCode, wrong_codes(MANY, MANY_CODE)),
            (errors.InvalidNumber, wrong_numbers(7)),
        ])
        told(self, code_without, [BARE, (Field(2, 1), (), (((1,),),), 1), 0], errors.InvalidNumber, [0])


class LinkMore(unittest.TestCase):
    def test_own_tuples(self):
        seen = set()
        for net, code in questions(214):
            for tail, head in itertools.combinations(range(net.points), 2):
                found = code_with(net, code, tail, head)
                self.assertEqual(found, own_with(net, code, tail, head))
                self.assertIs(is_code(*found), True)
                seen.add((tail == 0, (tail, head) in net.links, head in [one for one, _ in net.links]))
        self.assertEqual(seen, set(itertools.product((True, False), repeat=3)))

    def test_told_ones(self):
        net, code = code_with(MANY, MANY_CODE, 1, 2)
        self.assertEqual(net.links, ((0, 1), (0, 1), (0, 2), (1, 2), (1, 2), (1, 2), (1, 2), (2, 3), (2, 4)))
        self.assertEqual(code[1], (*MANY_CODE[1][:6], (0, 0), (1, 2, 3, 4, 0), (4, 3, 2, 1, 0)))
        net, code = code_with(MANY, MANY_CODE, 0, 1)
        self.assertEqual(code[1], ((1, 2), (3, 4), (0, 0), (0, 1), (1, 2, 0), (3, 4, 0), (1, 0, 0), *MANY_CODE[1][6:]))
        net, code = code_with(MANY, MANY_CODE, 0, 2)
        self.assertEqual(code[1], (*MANY_CODE[1][:3], (0, 0), *MANY_CODE[1][3:6], (1, 0, 2, 3, 4), (4, 0, 3, 2, 1)))
        self.assertEqual(code_with(MANY, MANY_CODE, 3, 4)[1][1], (*MANY_CODE[1], (0,)))
        self.assertEqual([code[0], *code[2:]], [MANY_CODE[0], *MANY_CODE[2:]])

    def test_the_others_carry_what_they_did(self):
        chance = random.Random(215)
        for net, code in questions(216):
            own, n = own_of(code), len(code[2][0])
            words = random_words(chance, own.q, own.m, n)
            before = own_carried(net, own.q, own.m, code[1], words)
            for tail, head in itertools.combinations(range(net.points), 2):
                more, greater = code_with(net, code, tail, head)
                link = with_link(net, tail, head)[1]
                found = carried(more, code[0], n, greater[1], words)
                self.assertEqual(found, before[:link] + ((0,) * own.m,) + before[link:])
                self.assertEqual(vectors(more, own.q, n, greater[1])[link], (0,) * n)

    def test_there_and_back(self):
        for net, code in questions(217):
            for tail, head in itertools.combinations(range(net.points), 2):
                more, greater = code_with(net, code, tail, head)
                back = code_without(more, greater, with_link(net, tail, head)[1])
                self.assertEqual(back, (net, code))

    def test_wrong_arguments(self):
        begun = [(errors.InvalidNet, wrong_nets()), (errors.InvalidCode, wrong_codes(MANY, MANY_CODE)[::2])]
        heads = (errors.InvalidNumber, [*junk(), 0, 1, 2, 5, 6, "3", (3,), 10 ** 59])
        check_parameters(self, code_with, [MANY, MANY_CODE, 2, 3], [*begun, (errors.InvalidNumber, [*wrong_numbers(4)]), heads])
        told(self, code_with, [MANY, MANY_CODE, 4, 4], errors.InvalidNumber, [4])
        with self.assertRaises(errors.TooMany) as caught:
            code_with(FULL, FULL_CODE, 0, 1)
        self.assertEqual(caught.exception.limit, 20)
        told(self, code_with, [FULL, FULL_CODE, 0, 2], errors.InvalidNumber, [2])
        told(self, code_with, [FULL, FULL_CODE, 1, 1], errors.InvalidNumber, [1])
        self.assertEqual(len(code_with(*code_without(FULL, FULL_CODE, 3), 0, 1)[0].links), 20)


class Kept(unittest.TestCase):
    def own_tells(self, net, code, sinks, t, s):
        return all(has_reader(net, code, sink, silent, lot) for sink in sinks for silent, lot in choices(net, t, s))

    def test_frontiers_by_trying(self):
        chance, seen = random.Random(218), set()
        shapes = [(TWIN, (2,)), (TWIN, (1, 2)), (THREE, (1,)), (Net(3, ((0, 1),) * 4 + ((0, 2),) * 3), (1, 2)), (BARE, (2,))]
        for net, sinks in [*shapes, *[(net, some_sinks(chance, net)) for net in drawn_nets(219, 6, 5)]]:
            codes = [random_code(chance, net, q, m, n, many, 1, 2) for q, m, n, many in ((2, 1, 1, 1), (3, 2, 2, 1), (2, 2, 2, 2))]
            # The one word is handed on by all links.
            ones = tuple((1,) if tail == 0 else (1,) * len(own_into(net, tail)) for tail, _ in net.links)
            for code in [*codes, (Field(7, 1), ones, (((1,),),), 1)]:
                most = min(6, len(net.links) + 1)
                found = kept_frontier(net, code, sinks, most)
                self.assertEqual(len(found), most + 1)
                for s, t in enumerate(found):
                    tells = [self.own_tells(net, code, sinks, further, s) for further in range(min(t + 2, 4))]
                    self.assertEqual(tells, [further <= t for further in range(min(t + 2, 4))])
                    seen.add((t, len(sinks) > 1))
                for least in range(most):
                    self.assertEqual(kept_frontier(net, code, sinks, least), found[:least + 1])
                # [16.3]
                for s in range(most):
                    self.assertGreaterEqual(found[s], found[s + 1])
                    if s + 2 <= most and found[s] > 0:
                        self.assertGreaterEqual(found[s + 2], found[s] - 1)
        self.assertTrue({(-1, True), (-1, False), (0, True), (0, False), (1, False), (1, True)} <= seen)

    def test_told_ones(self):
        self.assertEqual(kept_frontier(THREE, SAID, (1,), 6), (1, 0, 0, -1, -1, -1, -1))
        self.assertEqual(kept_frontier(THREE, SAID, (1,), 0), (1,))
        # More than six wrong links are not asked for.
        wide = Net(2, ((0, 1),) * 13)
        code = (Field(2, 1), ((1,),) * 13, (((1,),),), 1)
        self.assertEqual(kept_frontier(wide, code, (1,), 0), (6,))
        # The sink that is told least counts.
        net = Net(3, ((0, 1), (0, 1), (0, 1), (0, 2)))
        code = (Field(2, 1), ((1,),) * 4, (((1,),),), 1)
        self.assertEqual(
            [kept_frontier(net, code, sinks, 2) for sinks in ((1,), (2,), (1, 2))],
            [(1, 0, 0), (0, -1, -1), (0, -1, -1)],
        )

    def test_what_is_kept(self):
        """[16.2], for codes with a link less or more."""
        chance, seen = random.Random(220), set()
        wide = Net(3, ((0, 1),) * 4 + ((0, 2),) + ((1, 2),) * 3)
        for net, sinks, numbers in (
            (THREE, (1,), (1, 1, 0, 0)), (wide, (1, 2), (1, 1, 1, 0)), (wide, (2,), (1, 0, 2, 1)),
            (FLY, (5, 6), (1, 0, 1, 0)),
        ):
            code = plan_or_cut(net, sinks, numbers, 2)[1]
            t, s, k = numbers[1:]
            for sink in sinks:
                if t:
                    self.assertIs(does_tell(net, code, sink, t - 1, s + 2), True)
                for link in range(len(net.links)):
                    less = code_without(net, code, link)
                    if s:
                        self.assertIs(does_tell(*less, sink, t, s - 1), True)
                        seen.add("less")
                more = code_with(net, code, *sorted(chance.sample(range(net.points), 2)))
                for further in range(3):
                    self.assertEqual(does_tell(*more, sink, further, 0), does_tell(net, code, sink, further, 0))
                    self.assertEqual(does_hide(*more, further), does_hide(net, code, further))
            # Any link code in the place of theirs hides from k.
            for _ in range(4):
                other = (code[0], random_link_code(chance, net, 2, len(code[2][0])), *code[2:])
                self.assertIs(does_hide(net, other, k), True)
        self.assertEqual(seen, {"less"})

    def test_too_many_choices(self):
        with self.assertRaises(errors.TooMany) as caught:
            kept_frontier(FULL, FULL_CODE, (1,), 0)
        self.assertEqual(caught.exception.limit, 20000)
        # Not told with no wrong link: asked for no more, up to the lots of silent links that are too many.
        nought = (Field(2, 1), ((0,),) * 20, (((1,),),), 1)
        self.assertEqual(kept_frontier(FULL, nought, (1,), 5), (-1,) * 6)
        told(self, kept_frontier, [FULL, nought, (1,), 6], errors.TooMany)
        # Asked for each sink, also where another one is not told at all.
        net = Net(3, ((0, 1), *((0, 2),) * 19))
        code = (Field(2, 1), ((0,), *((1,),) * 19), (((1,),),), 1)
        self.assertEqual(kept_frontier(net, code, (1,), 1), (-1, -1))
        told(self, kept_frontier, [net, code, (1, 2), 1], errors.TooMany)
        told(self, kept_frontier, [net, code, (1, 3), 6], errors.InvalidPoints)
        told(self, kept_frontier, [net, code, (1, 2), 7], errors.InvalidNumber, [7])

    def test_wrong_arguments(self):
        check_parameters(self, kept_frontier, [MANY, MANY_CODE, (2, 4), 1], [
            (errors.InvalidNet, wrong_nets()), (errors.InvalidCode, wrong_codes(MANY, MANY_CODE)[::2]),
            (errors.InvalidPoints, wrong_sinks(MANY, (2, 4))), (errors.InvalidNumber, wrong_numbers(6)),
        ])


class HowMuch(unittest.TestCase):
    def test_by_all_cuts(self):
        seen = set()
        for net, sinks in (*rooms(221, 20), (FULL, (1,)), (Net(3, ((0, 1),) * 7 + ((1, 2),) * 6), (1, 2))):
            most = min(own_room(net, sinks), 6)
            for t, s, k in itertools.product(range(7), repeat=3):
                left = most - 2 * t - s - k
                self.assertEqual(greatest_message(net, sinks, t, s, k), left if left >= 1 else None)
                seen.add(left)
        self.assertTrue({0, 1, 2, 3, 4, 5, 6} <= seen)

    def test_plans_of_so_many_words(self):
        for net, sinks in ((TWIN, (2,)), (FLY, (5, 6)), (FULL, (1,)), (MANY, (2,))):
            for t, s, k in ((0, 0, 0), (0, 1, 0), (0, 0, 1), (1, 0, 0), (1, 1, 1)):
                r = greatest_message(net, sinks, t, s, k)
                if r is not None:
                    self.assertEqual(plan_or_cut(net, sinks, (r, t, s, k), 7)[0], "plan")
                more = (1 if r is None else r + 1, t, s, k)
                if more[0] + 2 * t + s + k <= 6:
                    self.assertEqual(plan_or_cut(net, sinks, more, 7)[0], "cut")

    def test_wrong_arguments(self):
        number = (errors.InvalidNumber, wrong_numbers(6))
        check_parameters(self, greatest_message, [FLY, (5, 6), 0, 1, 0], [
            (errors.InvalidNet, wrong_nets()), (errors.InvalidPoints, wrong_sinks(FLY, (5, 6))), number, number,
            number,
        ])
        self.assertIsNone(greatest_message(FLY, (5, 6), 6, 6, 6))


class Loss(unittest.TestCase):
    def is_own(self, net, sinks, link, value):
        number, less = own_room(net, sinks), Net(net.points, net.links[:link] + net.links[link + 1:])
        if value[0] == "stays":
            return are_own_ways(less, sinks, number, value[1])
        _, sink, cut = value
        links = own_cut_links(net, cut)
        return sink in sinks and cut in all_cuts(net, sink) and len(links) == number and link in links

    def test_which_one_is_due(self):
        seen = set()
        for net, sinks in rooms(222, 20):
            for link in range(len(net.links)):
                less = Net(net.points, net.links[:link] + net.links[link + 1:])
                now, after = own_room(net, sinks), own_room(less, sinks)
                answer = loss(net, sinks, link)
                self.assertIn(now - after, (0, 1))
                self.assertEqual((answer[0], len(answer)), ("stays", 2) if now == after else ("falls", 3))
                self.assertTrue(self.is_own(net, sinks, link, answer))
                self.assertIs(is_loss(net, sinks, link, answer), True)
                seen.add((answer[0], min(now, 3), len(sinks) > 1))
        for number, several in itertools.product((1, 2, 3), (True, False)):
            self.assertTrue({("stays", number, several), ("falls", number, several)} & seen)
        self.assertTrue({
            ("falls", 1, True), ("falls", 2, True), ("stays", 0, True), ("stays", 1, False), ("falls", 2, False),
        } <= seen)

    def test_all_cuts_judged(self):
        seen = set()
        for net, sinks in rooms(223, 10):
            if net.points > 5:
                continue
            for link, sink, cut in itertools.product(range(len(net.links)), range(net.points), subsets(range(net.points))):
                right = self.is_own(net, sinks, link, ("falls", sink, cut)) if sink in sinks else False
                self.assertIs(is_loss(net, sinks, link, ("falls", sink, cut)), right)
                seen.add(right)
        self.assertEqual(seen, {True, False})

    def test_other_ways_judged(self):
        chance, seen = random.Random(224), set()
        for net, sinks in rooms(225, 12):
            for link in list(range(len(net.links)))[:4]:
                less = Net(net.points, net.links[:link] + net.links[link + 1:])
                number = own_room(net, sinks)
                for _ in range(6):
                    many = [chance.choice((number, number, max(number - 1, 0))) for _ in sinks]
                    value = tuple(
                        tuple(chance.choice(all_ways(less, 0, sink) or [(0,)]) for _ in range(one)) for sink, one in zip(sinks, many)
                    )
                    right = are_own_ways(less, sinks, number, value)
                    self.assertIs(is_loss(net, sinks, link, ("stays", value)), right)
                    seen.add((right, number))
        self.assertTrue({(True, 1), (True, 0), (False, 1), (False, 2), (True, 2)} <= seen)

    def test_values_of_any_kind(self):
        ways = (((0, 2), (1,)),)
        for right in ((((0, 2), (1,)),), (((1,), (0, 2)),)):
            self.assertIs(is_loss(TWIN, (2,), 1, ("stays", right)), True)
        values = [
            *pairs_of("stays", "falls"), *[("stays", value) for value in spoiled(ways)], ("stays", ways, 0),
            ["stays", ways], ("Stays", ways), ways,
            ("stays", ways + ways), ("stays", ()), ("stays", ways[0]), ("stays", (((0, 2),),)),
            ("stays", (((0, 2), (0, 2)),)), ("rises", ways),
            ("stays", (((0, 3), (2,)),)), ("falls", 2, (0,)), ("falls", 2, (0, 1)), ("stays", 2, (0, 1)),
        ]
        check_judge(self, is_loss, [TWIN, (2,), 1], [value for value in values if value != ("stays", (((0, 2), (1,)),))])
        self.assertIs(is_loss(TWIN, (2,), 2, ("falls", 2, (0, 1))), True)
        values = [
            *pairs_of("stays", "falls"), ("falls", 2, (0,), 0), ["falls", 2, (0, 1)], ("falls", (0, 1)),
            ("falls", True, (0, 1)), ("falls", 1, (0,)),
            *[("falls", 2, value) for value in spoiled((0, 1))],
            *[("falls", value, (0, 1)) for value in [*junk(), "2", (2,), 0, 1, 3]],
            ("falls", 2, (0, 1, 2)), ("falls", 2, (1, 0)), ("stays", 2, (0, 1)), ("cut", 2, (0, 1)), ("stays", ways),
            ("falls", 2, (1,)),
        ]
        check_judge(self, is_loss, [TWIN, (2,), 2], values)

    def test_wrong_arguments(self):
        wrong = [
            (errors.InvalidNet, wrong_nets()), (errors.InvalidPoints, wrong_sinks(FLY, (5, 6))),
            (errors.InvalidNumber, wrong_numbers(8)),
        ]
        check_parameters(self, loss, [FLY, (5, 6), 2], wrong)
        check_parameters(self, is_loss, [FLY, (5, 6), 2, 0], [*wrong, None])


class Gain(unittest.TestCase):
    def is_own(self, net, sinks, tail, head, value):
        number = own_room(net, sinks)
        more = Net(net.points, tuple(sorted([*net.links, (tail, head)])))
        if value[0] == "rises":
            return are_own_ways(more, sinks, number + 1, value[1])
        _, sink, cut = value
        leaves = tail in cut and head not in cut
        return sink in sinks and cut in all_cuts(net, sink) and len(own_cut_links(net, cut)) == number and not leaves

    def test_which_one_is_due(self):
        seen = set()
        for net, sinks in rooms(226):
            for tail, head in itertools.combinations(range(net.points), 2):
                now, after = own_room(net, sinks), own_room(Net(net.points, tuple(sorted([*net.links, (tail, head)]))), sinks)
                answer = gain(net, sinks, tail, head)
                self.assertIn(after - now, (0, 1))
                self.assertEqual((answer[0], len(answer)), ("stays", 3) if now == after else ("rises", 2))
                self.assertTrue(self.is_own(net, sinks, tail, head, answer))
                self.assertIs(is_gain(net, sinks, tail, head, answer), True)
                seen.add((answer[0], min(now, 2), len(sinks) > 1))
        self.assertTrue({
            ("rises", 0, False), ("rises", 1, False), ("stays", 0, True), ("stays", 1, True), ("stays", 2, False),
        } <= seen)
        self.assertTrue({("rises", 0, True), ("rises", 1, True)} & seen)

    def test_all_cuts_judged(self):
        seen = set()
        for net, sinks in rooms(227, 10):
            if net.points > 5:
                continue
            for tail, head in itertools.combinations(range(net.points), 2):
                for sink, cut in itertools.product(range(net.points), subsets(range(net.points))):
                    right = self.is_own(net, sinks, tail, head, ("stays", sink, cut)) if sink in sinks else False
                    self.assertIs(is_gain(net, sinks, tail, head, ("stays", sink, cut)), right)
                    seen.add((right, tail in cut and head not in cut))
        self.assertEqual(seen, {(True, False), (False, True), (False, False)})

    def test_values_of_any_kind(self):
        ways = (((0, 3), (1, 4), (2,)),)
        self.assertEqual(room(TWIN, (2,)), 2)
        self.assertIs(is_gain(TWIN, (2,), 1, 2, ("rises", ways)), True)
        self.assertIs(is_gain(TWIN, (2,), 1, 2, ("rises", (((2,), (1, 3), (0, 4)),))), True)
        values = [
            *pairs_of("stays", "rises"), *[("rises", value) for value in spoiled(ways)], ("rises", ways, 0),
            ["rises", ways], ("Rises", ways), ways,
            ("rises", ways + ways), ("rises", ()), ("rises", ways[0]), ("rises", (ways[0][:2],)), ("stays", ways),
            ("stays", 2, (0, 1)),
            ("rises", (((0, 3), (0, 4), (2,)),)), ("stays", 2, (0,)),
        ]
        check_judge(self, is_gain, [TWIN, (2,), 1, 2], values)
        self.assertIs(is_gain(TWIN, (2,), 0, 1, ("stays", 2, (0, 1))), True)
        values = [
            *pairs_of("stays", "rises"), ("stays", 2, (0, 1), 0), ["stays", 2, (0, 1)], ("stays", (0, 1)),
            ("stays", True, (0, 1)), ("stays", 1, (0,)),
            *[("stays", 2, value) for value in spoiled((0, 1))],
            *[("stays", value, (0, 1)) for value in [*junk(), "2", (2,), 0, 1, 3]],
            ("stays", 2, (0, 1, 2)), ("stays", 2, (1, 0)), ("falls", 2, (0, 1)), ("rises", 2, (0, 1)),
            ("rises", ways), ("stays", 2, (0,)),
        ]
        check_judge(self, is_gain, [TWIN, (2,), 0, 1], values)

    def test_wrong_arguments(self):
        heads = (errors.InvalidNumber, [*junk(), 0, 1, 2, 7, 8, "5", (5,), 10 ** 59])
        wrong = [
            (errors.InvalidNet, wrong_nets()), (errors.InvalidPoints, wrong_sinks(FLY, (5, 6))),
            (errors.InvalidNumber, wrong_numbers(6)), heads,
        ]
        check_parameters(self, gain, [FLY, (5, 6), 2, 5], wrong)
        check_parameters(self, is_gain, [FLY, (5, 6), 2, 5, 0], [*wrong, None])
        for function, further in ((gain, []), (is_gain, [0])):
            with self.assertRaises(errors.TooMany) as caught:
                function(FULL, (1,), 0, 1, *further)
            self.assertEqual(caught.exception.limit, 20)
            told(self, function, [FULL, (1,), 0, 2, *further], errors.InvalidNumber, [2])
            told(self, function, [FULL, (2,), 0, 1, *further], errors.InvalidPoints)


class TrueIsNotOne(unittest.TestCase):
    def test_sinks_of_papers(self):
        self.assertIs(is_loss(THREE, (1,), 0, ("falls", 1, (0,))), True)
        self.assertIs(is_loss(THREE, (1,), 0, ("falls", True, (0,))), False)
        net = Net(3, ((0, 1), (1, 2)))
        self.assertIs(is_gain(net, (1,), 1, 2, ("stays", 1, (0,))), True)
        self.assertIs(is_gain(net, (1,), 1, 2, ("stays", True, (0,))), False)


class NoneIsTrue(unittest.TestCase):
    """[16.6]"""

    def test_a_link_less_that_leaks(self):
        # The link behind them carries w + e - e + f; without the one that carries f it carries w.
        net = Net(3, ((0, 1), (0, 1), (0, 1), (1, 2)))
        code = (
            Field(3, 1), ((1, 1, 0), (0, 1, 0), (0, 0, 1), (1, 2, 1)),
            (((1,), (0,), (0,)), ((0,), (1,), (0,)), ((0,), (0,), (1,))), 1,
        )
        self.assertEqual([does_hide(net, code, 1), does_hide(*code_without(net, code, 2), 1)], [True, False])

    def test_told_with_two_silent_links_not_with_a_wrong_one(self):
        net = Net(3, ((0, 1),) * 4 + ((1, 2),) * 3)
        code = (Field(2, 1), ((0,), (1,), (1,), (1,), (1, 1, 0, 0), (1, 0, 1, 0), (1, 0, 0, 1)), (((1,),),), 1)
        self.assertEqual([does_tell(net, code, 2, 0, 2), does_tell(net, code, 2, 1, 0)], [True, False])
        self.assertEqual(kept_frontier(net, code, (2,), 2), (0, 0, 0))

    def test_links_in_no_least_cut_left_out_together(self):
        net = Net(3, ((0, 1), (0, 1), (1, 2)))
        self.assertEqual([loss(net, (2,), link)[0] for link in range(3)], ["stays", "stays", "falls"])
        self.assertEqual([room(net, (2,)), room(Net(3, ((1, 2),)), (2,))], [1, 0])

    def test_a_link_more_that_gains_nothing(self):
        self.assertEqual(gain(TWIN, (2,), 0, 1)[0], "stays")
