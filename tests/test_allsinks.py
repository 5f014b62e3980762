"""Stage 9: one code for all sinks."""

import itertools
import random
import unittest

from rowsthrough import errors
from rowsthrough.link import allsinks
from rowsthrough.link.allsinks import (
    code_or_cut, has_room, is_code_or_cut, is_for_all, is_known_from, known_from, ways_code,
)
from rowsthrough.link.linkcodes import sink_rank, vectors
from rowsthrough.net import nets
from rowsthrough.net.flows import is_ways_or_cut, most_ways, ways_or_cut
from rowsthrough.net.nets import Net, with_link, without_links
from tests.helper import (
    all_cuts, all_ways, check_judge, check_parameters, drawn_nets, junk, least_number, own_cut_links, own_rank,
    own_rows, own_sum, own_units, own_vectors, pairs_of, random_link_code, random_net, run_examples, spoiled, subsets,
    told, tuples, wrong_bases, wrong_link_codes, wrong_nets, wrong_sinks, wrong_sizes,
)

EXAMPLES = """
>>> TWIN = Net(6, ((0, 1), (0, 2), (1, 3), (1, 5), (2, 3), (2, 4), (3, 4), (3, 5)))
>>> CODE = ((1, 0), (0, 1), (1,), (1,), (1,), (1,), (1, 1), (1, 1))
>>> [is_for_all(TWIN, (4, 5), 2, 2, CODE), code_or_cut(TWIN, (4, 5), 2, 2)[0], code_or_cut(TWIN, (3, 4), 3, 2)[0], is_code_or_cut(TWIN, (1, 4), 2, 2, ("cut", 1, (0, 2, 3, 4, 5)))]
[True, 'code', 'cut', True]
>>> [known_from(TWIN, (4, 5), 2, 2, CODE, 4), has_room(TWIN, (1, 2, 4), 2)]
[((1, 1), (1, 0)), False]
>>> code_or_cut(Net(4, ((0, 1), (0, 2), (0, 3))), (1, 2, 3), 1, 2)
raises Refused(('field',))
"""

TWIN = Net(6, ((0, 1), (0, 2), (1, 3), (1, 5), (2, 3), (2, 4), (3, 4), (3, 5)))
CODE = ((1, 0), (0, 1), (1,), (1,), (1,), (1,), (1, 1), (1, 1))
THREE = Net(4, ((0, 1), (0, 2), (0, 3)))
BARE = Net(4, ())
# Three points that one link leads to each, and a sink for each two of them.
PAIRS = Net(7, ((0, 1), (0, 2), (0, 3), (1, 4), (1, 5), (2, 4), (2, 6), (3, 5), (3, 6)))
# Six sinks, each behind two of the links that leave point 1 by turns.
SIX = Net(8, ((0, 1), (0, 1), *[(1, head) for head in range(2, 8) for _ in range(2)]))
BASES = (2, 3, 5, 7, 11, 13)


def some_sinks(chance, net):
    many = chance.randrange(1, min(6, net.points - 1) + 1)
    return tuple(sorted(chance.sample(range(1, net.points), many)))


def drawn(seed):
    """Nets, and some sinks of each."""
    chance = random.Random(seed)
    yield from ((TWIN, (4, 5)), (PAIRS, (4, 5, 6)), (BARE, (1, 3)), (THREE, (1, 2, 3)), (SIX, (2, 3, 4, 5, 6, 7)))
    for net in drawn_nets(seed):
        for _ in range(3):
            yield net, some_sinks(chance, net)
    # Nets with many links from the source, so that much comes to the sinks.
    for points in (4, 5, 6, 7, 8, 9, 10):
        for _ in range(4):
            wide = random_net(chance, points, 12).links + ((0, 1),) * 5 + ((0, 2),) * 3
            net = Net(points, tuple(sorted(wide)))
            yield net, some_sinks(chance, net)


def own_is_for_all(net, sinks, n, q, code):
    return all(own_rank(q, own_rows(net, q, n, code, sink)) == n for sink in sinks)


class Examples(unittest.TestCase):
    def test_examples(self):
        run_examples(self, EXAMPLES, {**vars(nets), **vars(allsinks)})


class CodeOrCut(unittest.TestCase):
    def test_which_one_is_due(self):
        seen = set()
        for net, sinks in drawn(92):
            least = min(least_number(net, sink) for sink in sinks)
            for n in range(1, 7):
                self.assertIs(has_room(net, sinks, n), least >= n)
                for q in BASES:
                    seen.add(self.check(net, sinks, n, q, least))
        kinds = {("cut", False), ("cut", True), ("code", False), ("refused", True)}
        self.assertEqual({entry[:2] for entry in seen}, kinds)
        self.assertEqual({entry[2] for entry in seen if entry[0] == "code"}, {1, 2, 3, 4, 5, 6})

    def check(self, net, sinks, n, q, least):
        small = q < len(sinks)
        if least >= n and small:
            told(self, code_or_cut, [net, sinks, n, q], errors.Refused)
            return "refused", small, n
        answer = code_or_cut(net, sinks, n, q)
        self.assertEqual(answer[0], "cut" if least < n else "code")
        self.assertIs(is_code_or_cut(net, sinks, n, q, answer), True)
        if answer[0] == "cut":
            _, sink, cut = answer
            self.assertEqual(len(answer), 3)
            self.assertIn(sink, sinks)
            self.assertIn(cut, all_cuts(net, sink))
            self.assertLess(len(own_cut_links(net, cut)), n)
        else:
            self.assertEqual(len(answer), 2)
            self.assertTrue(own_is_for_all(net, sinks, n, q, answer[1]))
            self.assertIs(is_for_all(net, sinks, n, q, answer[1]), True)
        return answer[0], small, n

    def test_as_many_sinks_as_the_base(self):
        chance, made = random.Random(93), 0
        for q, many in ((2, 2), (3, 3), (5, 5), (2, 1), (7, 6), (5, 4), (3, 2)):
            for _ in range(60):
                net = random_net(chance, 10, 20)
                net = Net(10, tuple(sorted(net.links[:14] + ((0, 1), (0, 1), (0, 2), (0, 2), (0, 3), (0, 3)))))
                rooms = {sink: most_ways(net, sink) for sink in range(1, 10)}
                sinks = tuple(sorted(sorted(rooms, key=rooms.get)[-many:]))
                room = min(rooms[sink] for sink in sinks)
                for n in range(1, min(room, 6) + 1):
                    kind, code = code_or_cut(net, sinks, n, q)
                    self.assertEqual(kind, "code")
                    self.assertTrue(own_is_for_all(net, sinks, n, q, code))
                    made += 1
        self.assertGreater(made, 400)

    def test_refused_tells_the_reason(self):
        for net, sinks, n, q in ((THREE, (1, 2, 3), 1, 2), (SIX, (2, 3, 4, 5, 6, 7), 2, 5), (PAIRS, (4, 5, 6), 2, 2)):
            with self.assertRaises(errors.Refused) as caught:
                code_or_cut(net, sinks, n, q)
            self.assertEqual(caught.exception.reason, ("field",))
            self.assertEqual(code_or_cut(net, sinks, n + 1, q)[0], "cut")

    def test_codes_over_smaller_bases_are_taken(self):
        code = ((1, 0), (0, 1), (1, 1), (1,), (1,), (1,), (1,), (1,), (1,))
        self.assertIs(is_for_all(PAIRS, (4, 5, 6), 2, 2, code), True)
        self.assertIs(is_code_or_cut(PAIRS, (4, 5, 6), 2, 2, ("code", code)), True)
        self.assertIs(is_code_or_cut(THREE, (1, 2, 3), 1, 2, ("code", ((1,), (1,), (1,)))), True)
        self.assertIs(is_code_or_cut(THREE, (1, 2, 3), 1, 2, ("code", ((1,), (0,), (1,)))), False)

    def test_all_small_codes_judged(self):
        seen = set()
        line = Net(3, ((0, 1), (0, 1), (0, 2), (1, 2)))
        for net, n, q, sinks in (
            (line, 1, 2, (1, 2)), (line, 2, 2, (1,)), (line, 2, 2, (1, 2)), (line, 2, 2, (2,)), (THREE, 1, 3, (1, 3)),
            (Net(2, ((0, 1), (0, 1))), 2, 3, (1,)),
        ):
            many = [n if tail == 0 else [head for _, head in net.links].count(tail) for tail, _ in net.links]
            for code in itertools.product(*[list(tuples(q, number)) for number in many]):
                right = own_is_for_all(net, sinks, n, q, code)
                self.assertIs(is_for_all(net, sinks, n, q, code), right)
                self.assertIs(is_code_or_cut(net, sinks, n, q, ("code", code)), right)
                seen.add(right)
        self.assertEqual(seen, {True, False})

    def test_all_cuts_judged(self):
        seen = set()
        for net, sinks in drawn(94):
            if net.points > 6:
                continue
            for sink in range(1, net.points):
                for cut in subsets(range(net.points)):
                    for n in (1, 2, 4):
                        right = sink in sinks and cut in all_cuts(net, sink) and len(own_cut_links(net, cut)) < n
                        self.assertIs(is_code_or_cut(net, sinks, n, 7, ("cut", sink, cut)), right)
                        seen.add((right, sink in sinks))
        self.assertEqual(seen, {(True, True), (False, True), (False, False)})

    def test_values_of_any_kind(self):
        arguments = [TWIN, (4, 5), 2, 2]
        self.assertIs(is_code_or_cut(*arguments, ("code", CODE)), True)
        values = [
            *pairs_of("code", "cut"), *[("code", value) for value in wrong_link_codes(TWIN, 2, CODE)], CODE, ("cut", CODE),
            ("code", CODE, 0), ["code", CODE], ("Code", CODE), ("code", 4, CODE), ("cut", 4, (0,)), ("cut", 4, ()),
        ]
        check_judge(self, is_code_or_cut, arguments, values)
        check_judge(self, is_for_all, arguments, [*wrong_link_codes(TWIN, 2, CODE), ("code", CODE)])
        cut = (0, 2, 3, 4, 5)
        arguments = [TWIN, (1, 4), 2, 2]
        self.assertIs(is_code_or_cut(*arguments, ("cut", 1, cut)), True)
        values = [
            *[("cut", 1, value) for value in spoiled(cut)], *[("cut", value, cut) for value in [*junk(), "1", (1,), 4, 5, 0]],
            ("cut", True, cut), ("cut", cut), ("cut", 1, cut, 0), ("code", 1, cut), ["cut", 1, cut], (1, cut), ("cut", 1),
            ("cut", 1, (0,)), ("cut", 1, (0, 1, 2, 3, 4, 5)), ("cut", 1, (2, 3, 4, 5)), ("cut", 1, (0, 2, 3, 5, 4)),
        ]
        check_judge(self, is_code_or_cut, arguments, values)

    def test_wrong_arguments(self):
        wrong = [
            (errors.InvalidNet, wrong_nets()), (errors.InvalidPoints, wrong_sinks(TWIN, (4, 5))),
            (errors.InvalidNumber, wrong_sizes()), (errors.InvalidNumber, wrong_bases()),
        ]
        for net, sinks in ((TWIN, (4, 5)), (TWIN, (1, 4))):
            check_parameters(self, code_or_cut, [net, sinks, 2, 3], wrong)
            for function in (is_for_all, is_code_or_cut):
                check_parameters(self, function, [net, sinks, 2, 3, 0], [*wrong, None])
            check_parameters(self, has_room, [net, sinks, 2], wrong[:3])
        # A wrong argument is told ahead of the refusal.
        told(self, code_or_cut, [THREE, (1, 2, 3), 1, 4], errors.InvalidNumber, [4])
        told(self, code_or_cut, [THREE, (1, 2, 3), 0, 2], errors.InvalidNumber, [0])


class FewerAndMore(unittest.TestCase):
    """[9.4], [9.5]"""

    def test_for_any_of_the_sinks(self):
        for net, sinks, n in ((TWIN, (4, 5), 2), (PAIRS, (4, 5, 6), 2), (SIX, (2, 3, 4, 5, 6, 7), 2)):
            code = code_or_cut(net, sinks, n, 7)[1]
            for some in subsets(sinks):
                if some:
                    self.assertIs(is_for_all(net, some, n, 7, code), True)

    def test_lesser_sizes(self):
        for net, sinks in drawn(95):
            room = min(min(most_ways(net, sink) for sink in sinks), 6)
            if room:
                code = code_or_cut(net, sinks, room, 7)[1]
                for n in range(1, room + 1):
                    less = tuple(row[:n] if link[0] == 0 else row for link, row in zip(net.links, code))
                    self.assertIs(is_for_all(net, sinks, n, 7, less), True)

    def test_a_further_link_with_zero_numbers(self):
        wide, index = with_link(TWIN, 1, 4)
        code = (*CODE[:index], (0,), *CODE[index:-2], (1, 1), (1, 1))
        self.assertEqual(wide.links[index], (1, 4))
        self.assertIs(is_for_all(wide, (4, 5), 2, 2, code), True)

    def test_room(self):
        for net, sinks in drawn(96):
            room = min(least_number(net, sink) for sink in sinks)
            sizes = [n for n in range(1, 7) if code_or_cut(net, sinks, n, 7)[0] == "code"]
            self.assertEqual(sizes, list(range(1, min(room, 6) + 1)))


class WaysCode(unittest.TestCase):
    def check(self, net, sinks, n, q, ways):
        code = ways_code(net, sinks, n, q, ways)
        self.assertTrue(own_is_for_all(net, sinks, n, q, code))
        self.assertIs(is_for_all(net, sinks, n, q, code), True)
        used = {index for apart in ways for way in apart for index in way}
        for index, vector in enumerate(own_vectors(net, q, n, code)):
            if index not in used:
                self.assertFalse(any(vector))
        return len(used) < len(net.links)

    def test_ways_that_were_found(self):
        idle = set()
        for net, sinks in drawn(97):
            room = min(most_ways(net, sink) for sink in sinks)
            for n in range(1, min(room, 6) + 1):
                ways = tuple(ways_or_cut(net, sink, n)[1] for sink in sinks)
                for q in BASES:
                    if q >= len(sinks):
                        idle.add(self.check(net, sinks, n, q, ways))
        self.assertEqual(idle, {True, False})

    def test_all_ways_of_small_nets(self):
        for net, sinks, n in ((TWIN, (4, 5), 2), (TWIN, (3, 4), 1), (PAIRS, (4, 5, 6), 2), (PAIRS, (1, 4), 1)):
            choices = [
                [
                    some for some in itertools.permutations(all_ways(net, 0, sink), n)
                    if len(set(sum(some, ()))) == len(sum(some, ()))
                ] for sink in sinks
            ]
            for ways in itertools.product(*choices):
                for q in (2, 3, 5):
                    if q >= len(sinks):
                        self.check(net, sinks, n, q, ways)

    def test_ways_that_share_links(self):
        # Both sinks want unlike words ahead of the same link; with q = 2 just the sum does for both.
        ways = (((1, 5), (0, 2, 6)), ((0, 3), (1, 4, 7)))
        self.check(TWIN, (4, 5), 2, 2, ways)
        line = Net(4, ((0, 1), (0, 1), (1, 2), (1, 2), (2, 3), (2, 3)))
        self.check(line, (1, 2, 3), 2, 3, (((0,), (1,)), ((0, 3), (1, 2)), ((1, 2, 5), (0, 3, 4))))

    def test_from_one_to_six_sinks(self):
        everything = tuple(tuple((0 + k, 2 + 2 * sink + k) for k in range(2)) for sink in range(6))
        for many in range(1, 7):
            for q in BASES:
                sinks = tuple(range(2, 2 + many))
                if q >= many:
                    self.check(SIX, sinks, 2, q, everything[:many])
                else:
                    with self.assertRaises(errors.Refused) as caught:
                        ways_code(SIX, sinks, 2, q, everything[:many])
                    self.assertEqual(caught.exception.reason, ("field",))

    def test_sinks_behind_shared_links(self):
        """Many sinks behind the same points, which stand in unlike places of their ways."""
        chance, turned = random.Random(98), 0
        net = Net(9, ((0, 1), (0, 1), (0, 2), (0, 2), (1, 3), (1, 3), (1, 4), (2, 3), (2, 3), (3, 4), (3, 4), (3, 5), (3, 6),
                      (3, 7), (4, 5), (4, 6), (4, 7), (4, 8), (4, 8), (4, 8)))
        choices = {}
        for sink in (5, 6, 7, 8):
            ways = all_ways(net, 0, sink)
            choices[sink] = [
                some for some in itertools.permutations(ways, 2) if len(set(sum(some, ()))) == len(sum(some, ()))
            ]
        for _ in range(150):
            ways = tuple(chance.choice(choices[sink]) for sink in (5, 6, 7, 8))
            self.check(net, (5, 6, 7, 8), 2, 5, ways)
            self.check(net, (5, 6, 7), 2, 3, ways[:3])
            self.check(net, (6, 8), 2, 2, (ways[1], ways[3]))
            turned += 1
        self.assertEqual(turned, 150)

    def test_wrong_arguments(self):
        ways = (((1, 5), (0, 2, 6)), ((0, 3), (1, 4, 7)))
        wrong = [
            *junk(), 0, 1, (), *spoiled(ways), ways[:1], (*ways, ways[0]), ways[::-1], (ways,), (ways[0], ways[0]),
            (((1, 5),), ((0, 3),)), (ways[0], ((0, 3), (0, 2, 7))), (ways[0], ((0, 3),)), (ways[0], (*ways[1], ())),
            (((1, 5), (0, 2, 6), ()), ways[1]), (ways[0], ((0, 3), (1, 4, 6))), (ways[0], ((0, 3), (4, 7))),
            (("ways", ways[0]), ("ways", ways[1])), (ways[0], ((0, 3), (0, 3))), (ways[0], ((0, 3), (1, 4, -1))),
        ]
        check_parameters(self, ways_code, [TWIN, (4, 5), 2, 3, ways], [
            (errors.InvalidNet, wrong_nets()), (errors.InvalidPoints, wrong_sinks(TWIN, (4, 5))),
            (errors.InvalidNumber, wrong_sizes()), (errors.InvalidNumber, wrong_bases()), (errors.InvalidLinks, wrong),
        ])
        # Ways of another number are told ahead of the refusal.
        told(self, ways_code, [THREE, (1, 2, 3), 1, 2, (((0,),), ((1,),))], errors.InvalidLinks)
        told(self, ways_code, [THREE, (1, 2, 3), 1, 2, (((0,),), ((1,),), ((2,),))], errors.Refused)
        told(self, ways_code, [THREE, (1, 2, 3), 1, 2, (((0,),), ((1,),), ((1,),))], errors.InvalidLinks)


class KnownFrom(unittest.TestCase):
    def test_own_products(self):
        seen = set()
        for net, sinks in drawn(99):
            room = min(most_ways(net, sink) for sink in sinks)
            for n in range(1, min(room, 6) + 1):
                for q in (7, 13):
                    code = code_or_cut(net, sinks, n, q)[1]
                    for sink in sinks:
                        rows = own_rows(net, q, n, code, sink)
                        found = known_from(net, sinks, n, q, code, sink)
                        self.assertEqual(tuple(own_sum(q, numbers, rows, n) for numbers in found), own_units(n))
                        self.assertIs(is_known_from(net, sinks, n, q, code, sink, found), True)
                        seen.add(len(rows) > n)
        self.assertEqual(seen, {True, False})

    def test_all_rows_judged(self):
        wide, right = Net(3, ((0, 1), (0, 1), (0, 1), (1, 2), (1, 2))), 0
        for net, sinks, n, q, code, sink in (
            (TWIN, (4, 5), 2, 2, CODE, 4), (TWIN, (4, 5), 2, 2, CODE, 5), (TWIN, (4,), 2, 3, CODE, 4),
            (wide, (1,), 2, 2, ((1, 0), (1, 1), (0, 1), (1, 0, 0), (0, 1, 0)), 1),
            (wide, (1, 2), 2, 2, ((1, 0), (1, 1), (0, 1), (1, 0, 0), (0, 1, 0)), 2),
            (Net(2, ((0, 1),)), (1,), 1, 5, ((3,),), 1),
        ):
            rows = own_rows(net, q, n, code, sink)
            for value in itertools.product(list(tuples(q, len(rows))), repeat=n):
                fits = tuple(own_sum(q, numbers, rows, n) for numbers in value) == own_units(n)
                self.assertIs(is_known_from(net, sinks, n, q, code, sink, value), fits)
                right += fits
        self.assertEqual(right, 1 + 1 + 1 + 4 + 1 + 1)

    def test_values_of_any_kind(self):
        found = known_from(TWIN, (4, 5), 2, 2, CODE, 4)
        values = [
            *spoiled(found), found[:1], (*found, found[0]), found[::-1], (found,), ("sum", found), ((3, 1), (1, 0)), list(found),
            ((1, 1), (1, 2)), ((1, 1, 0), (1, 0, 0)), ((1,), (1,)), ((-1, 1), (1, 0)), ((), ()), ((1, 1), ()), ((1, 1), (1,)),
        ]
        check_judge(self, is_known_from, [TWIN, (4, 5), 2, 2, CODE, 4], values)

    def test_wrong_arguments(self):
        codes = [*wrong_link_codes(TWIN, 2, CODE)[::3], ((0, 0),) + CODE[1:], CODE[:6] + ((0, 1), (1, 1)), ("code", CODE)]
        wrong = [
            (errors.InvalidNet, wrong_nets()), (errors.InvalidPoints, wrong_sinks(TWIN, (4, 5))),
            (errors.InvalidNumber, wrong_sizes()), (errors.InvalidNumber, wrong_bases()), (errors.InvalidCode, codes),
            (errors.InvalidNumber, [*junk(), 0, 1, 2, 3, 6, 10 ** 59, "4", (4,), [4]]),
        ]
        right = [TWIN, (4, 5), 2, 2, CODE, 4]
        wrong[1] = (errors.InvalidPoints, wrong_sinks(TWIN, (4, 5)))
        check_parameters(self, known_from, right, wrong)
        check_parameters(self, is_known_from, [*right, 0], [*wrong, None])
        one = Net(2, ((0, 1),))
        told(self, known_from, [one, (1,), 1, 2, ((1,),), True], errors.InvalidNumber, [True])

    def test_code_for_the_sink_alone_is_refused(self):
        code = ((1, 0), (0, 1), (1,), (1,), (1,), (1,), (1, 0), (1, 0))
        self.assertEqual(own_rank(2, own_rows(TWIN, 2, 2, code, 4)), 2)
        told(self, known_from, [TWIN, (4, 5), 2, 2, code, 4], errors.InvalidCode)
        self.assertEqual(len(known_from(TWIN, (4,), 2, 2, code, 4)), 2)


class NoChanges(unittest.TestCase):
    def test_equal_calls_return_equal_results(self):
        for net, sinks in drawn(100):
            links = net.links
            one, other = code_or_cut(net, sinks, 2, 7), code_or_cut(net, sinks, 2, 7)
            self.assertEqual((one, net.links), (other, links))


class NoneIsTrue(unittest.TestCase):
    """[9.6]"""

    def test_ways_of_unlike_sinks_share_a_link(self):
        line = Net(3, ((0, 1), (1, 2)))
        self.assertEqual(ways_code(line, (1, 2), 1, 2, (((0,),), ((0, 1),))), ((1,), (1,)))

    def test_code_for_one_sink_and_not_for_another_one(self):
        net = Net(3, ((0, 1), (0, 2)))
        self.assertEqual([most_ways(net, 1), most_ways(net, 2)], [1, 1])
        self.assertEqual([is_for_all(net, (1,), 1, 2, ((1,), (0,))), is_for_all(net, (2,), 1, 2, ((1,), (0,)))], [True, False])

    def test_points_on_ways_are_not_told_all(self):
        ways = (((1, 5), (0, 2, 6)), ((0, 3), (1, 4, 7)))
        self.assertIs(is_ways_or_cut(TWIN, 4, 2, ("ways", ways[0])), True)
        code = ways_code(TWIN, (4, 5), 2, 2, ways)
        self.assertEqual([sink_rank(TWIN, 2, 2, code, point) for point in (1, 2, 4, 5)], [1, 1, 2, 2])

    def test_nothing_is_left_without_a_link_with_a_zero_number(self):
        net, code = Net(2, ((0, 1), (0, 1))), ((1, 0), (0, 1))
        self.assertIs(is_for_all(net, (1,), 2, 2, code), True)
        self.assertIs(is_for_all(without_links(net, (0,)), (1,), 2, 2, code[1:]), False)

    def test_bases_below_the_number_of_sinks(self):
        """[9.2]: a code may be there all the same."""
        chance, seen = random.Random(101), set()
        for _ in range(300):
            code = random_link_code(chance, PAIRS, 2, 2)
            seen.add(is_for_all(PAIRS, (4, 5, 6), 2, 2, code))
            self.assertEqual(len(vectors(PAIRS, 2, 2, code)), 9)
        self.assertEqual(seen, {True, False})
