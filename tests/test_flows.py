"""Stage 7: flows and cuts."""

import itertools
import random
import unittest

from rowsthrough import errors
from rowsthrough.net import flows, nets
from rowsthrough.net.flows import (
    cut_links, is_least_cut, is_ways_or_cut, least_cuts, most_ways, needed_links, parted, ways_or_cut, weakest,
)
from rowsthrough.net.nets import Net, with_link, without_links
from tests.helper import (
    all_cuts, all_ways, check_judge, check_parameters, drawn_nets, junk, least_number, own_cut_links, pairs_of,
    run_examples, spoiled, subsets, told, wrong_lots, wrong_nets, wrong_numbers, wrong_points, wrong_sinks,
)

EXAMPLES = """
>>> PAIR = Net(7, ((0, 1), (0, 2), (1, 3), (1, 5), (2, 3), (2, 6), (3, 4), (4, 5), (4, 6)))
>>> [most_ways(PAIR, 5), weakest(PAIR, (4, 5, 6)), least_cuts(PAIR, 4), needed_links(PAIR, 4)]
[2, (1, 4), ((0, 1, 2, 3, 5, 6), (0, 1, 2, 3, 5, 6)), (6,)]
>>> [is_ways_or_cut(PAIR, 5, 2, ("ways", ((0, 3), (1, 4, 6, 7)))), is_ways_or_cut(PAIR, 4, 2, ("cut", (0, 1, 2, 3, 5, 6))), is_ways_or_cut(PAIR, 4, 2, ("cut", (0, 1, 2, 3)))]
[True, True, False]
>>> [cut_links(PAIR, (0, 2)), len(parted(PAIR, 5, (0, 1, 3, 4, 6, 7))), ways_or_cut(PAIR, 4, 0), is_least_cut(PAIR, 5, (0,))]
[(0, 4, 5), 2, ('ways', ()), True]
>>> parted(PAIR, 5, (0, 1, 3, 4))
raises InvalidOperation
"""

PAIR = Net(7, ((0, 1), (0, 2), (1, 3), (1, 5), (2, 3), (2, 6), (3, 4), (4, 5), (4, 6)))
DIAMOND = Net(4, ((0, 1), (0, 2), (1, 2), (1, 3), (2, 3)))
PARALLEL = Net(3, ((0, 1), (0, 1), (0, 2), (1, 2), (1, 2), (1, 2)))
BARE = Net(4, ())
# Of the two ways to point 3 or 4 in the middle one has to be given up, whichever is taken first.
CROSSED = Net(6, ((0, 1), (0, 2), (1, 3), (1, 4), (2, 3), (3, 5), (4, 5)))
TURNED = Net(6, ((0, 1), (0, 2), (1, 4), (2, 3), (2, 4), (3, 5), (4, 5)))
FULL = Net(2, ((0, 1),) * 20)


def layered_nets(seed):
    """Nets in which ways that were found first often have to be given up in part."""
    chance = random.Random(seed)
    for points in (6, 7, 8, 9, 10) * 4:
        middle = (points + 1) // 2
        links = [(0, point) for point in range(1, middle) for _ in range(chance.choice((1, 1, 2)))]
        links += [(point, points - 1) for point in range(middle, points - 1)]
        pairs = [(one, other) for one in range(1, middle) for other in range(middle, points - 1)]
        while len(links) < 20 and len(links) < 3 * points:
            links.append(chance.choice(pairs))
        yield Net(points, tuple(sorted(links)))


def questions(seed):
    for net in (PAIR, DIAMOND, PARALLEL, BARE, CROSSED, TURNED, FULL, *drawn_nets(seed), *layered_nets(seed)):
        for sink in range(1, net.points):
            yield net, sink


def own_is_flow(net, sink, lot):
    for point in range(1, net.points):
        come = sum(net.links[index][1] == point for index in lot)
        gone = sum(net.links[index][0] == point for index in lot)
        if gone if point == sink else come != gone:
            return False
    return True


class Examples(unittest.TestCase):
    def test_examples(self):
        run_examples(self, EXAMPLES, {**vars(nets), **vars(flows)})


class WaysOrCut(unittest.TestCase):
    def check_ways(self, net, sink, number, ways):
        self.assertIs(type(ways), tuple)
        self.assertEqual(len(ways), number)
        links = [index for way in ways for index in way]
        self.assertEqual(len(links), len(set(links)))
        for way in ways:
            self.assertIs(type(way), tuple)
            points = [0] + [net.links[index][1] for index in way]
            self.assertEqual([net.links[index][0] for index in way], points[:-1])
            self.assertEqual(points[-1], sink)

    def check_cut(self, net, sink, number, cut):
        self.assertIn(cut, all_cuts(net, sink))
        self.assertLess(len(own_cut_links(net, cut)), number)

    def test_which_one_is_due(self):
        kinds = set()
        for net, sink in questions(71):
            least = least_number(net, sink)
            self.assertEqual(most_ways(net, sink), least)
            for number in {*range(least + 3), len(net.links), 19, 20} & set(range(21)):
                kind, found = ways_or_cut(net, sink, number)
                self.assertEqual(kind, "ways" if number <= least else "cut")
                if kind == "ways":
                    self.check_ways(net, sink, number, found)
                else:
                    self.check_cut(net, sink, number, found)
                self.assertIs(is_ways_or_cut(net, sink, number, (kind, found)), True)
                kinds.add((kind, number == 0, number > len(net.links)))
        self.assertEqual(kinds, {("ways", True, False), ("ways", False, False), ("cut", False, False), ("cut", False, True)})

    def test_greatest_number(self):
        self.assertEqual([most_ways(FULL, 1), most_ways(BARE, 3), most_ways(CROSSED, 5), most_ways(CROSSED, 3)], [20, 0, 2, 2])
        self.assertEqual(ways_or_cut(FULL, 1, 20)[0], "ways")
        self.assertEqual(ways_or_cut(BARE, 3, 1), ("cut", (0,)))
        self.assertEqual(set(ways_or_cut(CROSSED, 5, 2)[1]), {(0, 3, 6), (1, 4, 5)})

    def test_all_cuts_judged(self):
        for net, sink in questions(72):
            if net.points > 7:
                continue
            for cut in all_cuts(net, sink):
                many = len(own_cut_links(net, cut))
                for number in range(21):
                    self.assertIs(is_ways_or_cut(net, sink, number, ("cut", cut)), many < number)
            for points in subsets(range(net.points)):
                if 0 not in points or sink in points:
                    self.assertIs(is_ways_or_cut(net, sink, 20, ("cut", points)), False)

    def test_all_ways_judged(self):
        taken = set()
        for net in (DIAMOND, PARALLEL, BARE, CROSSED, *drawn_nets(73, 8, 5)):
            for sink in range(1, net.points):
                ways = all_ways(net, 0, sink)
                for many in range(4):
                    for tried in itertools.product(ways[:9], repeat=many):
                        links = sum(tried, ())
                        apart = len(links) == len(set(links))
                        for number in range(5):
                            right = apart and many == number
                            self.assertIs(is_ways_or_cut(net, sink, number, ("ways", tried)), right)
                            taken.add((many, right))
        self.assertEqual(taken, {(0, True), (0, False), (1, True), (1, False), (2, True), (2, False), (3, True), (3, False)})

    def test_other_ways_are_taken(self):
        for ways in itertools.permutations(((0, 3), (1, 4, 6, 7))):
            self.assertIs(is_ways_or_cut(PAIR, 5, 2, ("ways", ways)), True)
        self.assertIs(is_ways_or_cut(PAIR, 5, 1, ("ways", ((1, 4, 6, 7),))), True)
        self.assertIs(is_ways_or_cut(PAIR, 5, 1, ("ways", ((0, 2, 6, 7),))), True)
        self.assertIs(is_ways_or_cut(PARALLEL, 2, 3, ("ways", ((1, 5), (2,), (0, 3)))), True)
        self.assertIs(is_ways_or_cut(PARALLEL, 2, 3, ("ways", ((1, 5), (2,), (0, 5)))), False)
        self.assertIs(is_ways_or_cut(PARALLEL, 2, 3, ("ways", ((1, 5), (2,), (2,)))), False)

    def test_values_of_any_kind(self):
        ways, cut = ((0, 3), (1, 4, 6, 7)), (0, 1, 2, 3, 5, 6)
        values = [
            *[("ways", value) for value in spoiled(ways)], *pairs_of("ways", "cut", "shore"), ("cut", ways), ("ways", ways, ways),
            ("Ways", ways), (ways,), ways, ["ways", ways], ("ways", (ways,)), ("ways", (*ways, ())), ("ways", (ways[0], ())),
            ("ways", (ways[0], (1, 5))), ("ways", ((0, 2, 6, 7), ways[1])), ("ways", ((0, 3), (0, 3))), ("ways", ways[:1]),
            ("ways", ((0, 3), (1, 4, 6, 8))), ("ways", ((0, 3), (4, 6, 7))), ("ways", ((0, 3), (1, -5, 6, 7))),
        ]
        self.assertIs(is_ways_or_cut(PAIR, 5, 2, ("ways", ways)), True)
        check_judge(self, is_ways_or_cut, [PAIR, 5, 2], values)
        values = [
            *[("cut", value) for value in spoiled(cut)], *pairs_of("ways", "cut"), ("ways", cut), ("cut", cut, cut), cut,
            ["cut", cut], ("cut", (1, 2, 3, 5, 6)), ("cut", (0, 1, 2, 3, 4, 5, 6)), ("cut", (1, 0, 2, 3, 5, 6)),
            ("cut", (0, 0, 1, 2, 3, 5, 6)), ("cut", (0, 1, 2, 3, 5, 6, 7)), ("cut", (-1, 0, 1, 2, 3, 5, 6)), ("cut", (0,)),
        ]
        self.assertIs(is_ways_or_cut(PAIR, 4, 2, ("cut", cut)), True)
        check_judge(self, is_ways_or_cut, [PAIR, 4, 2], values)

    def test_wrong_arguments(self):
        wrong = [
            (errors.InvalidNet, wrong_nets()), (errors.InvalidNumber, wrong_points(PAIR)),
            (errors.InvalidNumber, wrong_numbers(20)),
        ]
        check_parameters(self, ways_or_cut, [PAIR, 5, 20], wrong)
        check_parameters(self, is_ways_or_cut, [PAIR, 5, 2, 0], [*wrong, None])
        check_parameters(self, most_ways, [PAIR, 6], wrong[:2])
        for number in range(21):
            self.assertEqual(ways_or_cut(BARE, 1, number)[0], "cut" if number else "ways")


class CutLinks(unittest.TestCase):
    def test_all_cuts(self):
        for net in (PAIR, DIAMOND, PARALLEL, BARE, FULL, *drawn_nets(74, 20, 7)):
            for points in subsets(range(1, net.points)):
                self.assertEqual(cut_links(net, (0, *points)), own_cut_links(net, (0, *points)))

    def test_links_that_lead_back_and_parallel_ones(self):
        net = Net(4, ((0, 1), (0, 2), (0, 2), (1, 2), (1, 3), (2, 3)))
        self.assertEqual(cut_links(net, (0, 2)), (0, 5))
        self.assertEqual(cut_links(net, (0, 1)), (1, 2, 3, 4))
        self.assertEqual(cut_links(net, (0, 3)), (0, 1, 2))
        self.assertEqual(cut_links(net, (0, 1, 2, 3)), ())
        self.assertEqual(cut_links(PARALLEL, (0,)), (0, 1, 2))
        self.assertEqual(cut_links(PARALLEL, (0, 1)), (2, 3, 4, 5))

    def test_wrong_arguments(self):
        cut = (0, 2, 3)
        wrong = [*junk(), 0, 1, (), *spoiled(cut), (1, 2), (1,), (0, 0), (2, 0), (0, 7), (0, 3, 2), (cut,), (-1, 0), "0"]
        check_parameters(self, cut_links, [PAIR, cut], [(errors.InvalidNet, wrong_nets()), (errors.InvalidPoints, wrong)])


class LeastCuts(unittest.TestCase):
    def test_nearest_and_farthest(self):
        unlike = 0
        for net, sink in questions(75):
            cuts = all_cuts(net, sink)
            least = least_number(net, sink)
            right = [cut for cut in cuts if len(own_cut_links(net, cut)) == least]
            nearest = tuple(sorted(set.intersection(*map(set, right))))
            farthest = tuple(sorted(set.union(*map(set, right))))
            self.assertEqual(least_cuts(net, sink), (nearest, farthest))
            unlike += nearest != farthest
            for cut in cuts:
                self.assertIs(is_least_cut(net, sink, cut), cut in right)
            needed = {index for cut in right for index in own_cut_links(net, cut)}
            self.assertEqual(needed_links(net, sink), tuple(sorted(needed)))
        self.assertGreater(unlike, 10)

    def test_each_link_taken_out_by_itself(self):
        seen = set()
        for net, sink in questions(76):
            if net.points > 7:
                continue
            least = least_number(net, sink)
            for index in range(len(net.links)):
                without = least_number(without_links(net, (index,)), sink)
                self.assertIn(without, (least, least - 1))
                self.assertEqual(index in needed_links(net, sink), without == least - 1)
                seen.add(least - without)
        self.assertEqual(seen, {0, 1})

    def test_needed_links_before_and_behind(self):
        line = Net(4, ((0, 1), (0, 1), (1, 2), (2, 3)))
        self.assertEqual([needed_links(line, 1), needed_links(line, 2), needed_links(line, 3)], [(0, 1), (2,), (2, 3)])
        self.assertEqual(least_cuts(line, 3), ((0, 1), (0, 1, 2)))
        self.assertEqual([least_cuts(BARE, 2), needed_links(BARE, 2)], [((0,), (0, 1, 3)), ()])

    def test_values_of_any_kind(self):
        cut = (0, 1, 2, 3, 5, 6)
        self.assertIs(is_least_cut(PAIR, 4, cut), True)
        values = [*spoiled(cut), ("cut", cut), (cut,), list(cut), (0,), (0, 1), (0, 1, 2, 3, 4), (1, 2, 3), cut[1:], cut + (7,)]
        check_judge(self, is_least_cut, [PAIR, 4], values)
        self.assertIs(is_least_cut(BARE, 1, (0, 1)), False)
        self.assertIs(is_least_cut(BARE, 1, (0, 2)), True)

    def test_wrong_arguments(self):
        wrong = [(errors.InvalidNet, wrong_nets()), (errors.InvalidNumber, wrong_points(PAIR))]
        for function in (least_cuts, needed_links):
            check_parameters(self, function, [PAIR, 4], wrong)
        check_parameters(self, is_least_cut, [PAIR, 4, 0], [*wrong, None])


class Parted(unittest.TestCase):
    def check_parted(self, net, sink, lot):
        ways = parted(net, sink, lot)
        self.assertEqual(tuple(sorted(index for way in ways for index in way)), lot)
        for way in ways:
            self.assertIn(way, all_ways(net, 0, sink))
        return len(ways)

    def test_all_lots(self):
        flows_found, numbers = 0, set()
        for net in (DIAMOND, PARALLEL, BARE, CROSSED, *drawn_nets(77, 9)):
            for sink in range(1, net.points):
                for lot in subsets(range(len(net.links))):
                    if own_is_flow(net, sink, lot):
                        numbers.add(self.check_parted(net, sink, lot))
                        flows_found += 1
                    else:
                        with self.assertRaises(errors.InvalidOperation) as caught:
                            parted(net, sink, lot)
                        self.assertIs(type(caught.exception), errors.InvalidOperation)
        self.assertGreater(flows_found, 100)
        self.assertTrue({0, 1, 2, 3} <= numbers)

    def test_large_flows(self):
        for net, sink in questions(78):
            ways = ways_or_cut(net, sink, most_ways(net, sink))[1]
            for many in range(len(ways) + 1):
                lot = tuple(sorted(index for way in ways[:many] for index in way))
                self.assertEqual(self.check_parted(net, sink, lot), many)

    def test_empty_flow(self):
        for net, sink in questions(79):
            self.assertEqual(parted(net, sink, ()), ())

    def test_ways_beside_one_another_at_a_point(self):
        net = Net(4, ((0, 1), (0, 1), (1, 2), (1, 2), (2, 3), (2, 3)))
        self.assertEqual(self.check_parted(net, 3, (0, 1, 2, 3, 4, 5)), 2)
        self.assertEqual(self.check_parted(net, 3, (0, 3, 4)), 1)

    def test_lots_that_are_no_flows(self):
        for sink, lot in (
            (5, (0, 1, 3, 4)), (5, (0,)), (5, (3,)), (5, (0, 1, 3, 4, 6)), (4, (0, 2, 6, 7)), (4, (0, 1, 2, 4, 6)), (3, (0, 2, 6)),
            (1, (0, 2)), (5, (0, 1, 2, 3, 4, 6, 7)), (5, (7,)), (6, (0, 3)), (6, tuple(range(9))), (1, (0, 3, 7)),
        ):
            told(self, parted, [PAIR, sink, lot], errors.InvalidOperation)

    def test_wrong_arguments(self):
        lot = (0, 3)
        check_parameters(self, parted, [PAIR, 5, lot], [
            (errors.InvalidNet, wrong_nets()), (errors.InvalidNumber, wrong_points(PAIR)),
            (errors.InvalidLinks, wrong_lots(PAIR, lot)),
        ])


class Weakest(unittest.TestCase):
    def test_by_all_cuts(self):
        tied = 0
        for net in (PAIR, DIAMOND, PARALLEL, CROSSED, FULL, *drawn_nets(80)):
            numbers = {sink: least_number(net, sink) for sink in range(1, net.points)}
            for sinks in list(subsets(range(1, net.points)))[:80]:
                if 1 <= len(sinks) <= 6:
                    least = min(numbers[sink] for sink in sinks)
                    first = min(sink for sink in sinks if numbers[sink] == least)
                    self.assertEqual(weakest(net, sinks), (least, first))
                    tied += [numbers[sink] for sink in sinks].count(least) > 1
        self.assertGreater(tied, 10)

    def test_least_one_of_equal_sinks(self):
        self.assertEqual([weakest(BARE, (1, 2, 3)), weakest(BARE, (2, 3)), weakest(PAIR, (5, 6))], [(0, 1), (0, 2), (2, 5)])

    def test_a_link_more_and_a_link_less(self):
        chance = random.Random(81)
        for net in drawn_nets(81, 19):
            sinks = tuple(sorted(chance.sample(range(1, net.points), min(6, net.points - 1))))
            for _ in range(3):
                tail, head = sorted(chance.sample(range(net.points), 2))
                more, index = with_link(net, tail, head)
                for sink in sinks:
                    self.assertIn(most_ways(more, sink) - most_ways(net, sink), (0, 1))
                    self.assertEqual(most_ways(without_links(more, (index,)), sink), most_ways(net, sink))
                self.assertIn(weakest(more, sinks)[0] - weakest(net, sinks)[0], (0, 1))

    def test_ways_to_unlike_sinks_may_share_links(self):
        line = Net(3, ((0, 1), (0, 1), (1, 2), (1, 2)))
        self.assertEqual(weakest(line, (1, 2)), (2, 1))

    def test_wrong_arguments(self):
        wrong = [(errors.InvalidNet, wrong_nets()), (errors.InvalidPoints, wrong_sinks(PAIR, (4, 5)))]
        check_parameters(self, weakest, [PAIR, (4, 5)], wrong)
        ten = Net(10, ((0, 1),))
        told(self, weakest, [ten, (1, 2, 3, 4, 5, 6, 7)], errors.InvalidPoints)
        self.assertEqual(weakest(ten, (1, 2, 3, 4, 5, 6)), (0, 2))


class NoChanges(unittest.TestCase):
    def test_it_never_changes(self):
        links = PAIR.links
        most_ways(PAIR, 5)
        least_cuts(PAIR, 5)
        needed_links(PAIR, 5)
        self.assertEqual([PAIR.points, PAIR.links], [7, links])
        self.assertEqual(ways_or_cut(PAIR, 5, 2), ways_or_cut(PAIR, 5, 2))


class NoneIsTrue(unittest.TestCase):
    """[7.6]"""

    def test_ways_beside_which_none_can_stand_are_fewer_than_can_be(self):
        self.assertIs(is_ways_or_cut(DIAMOND, 3, 1, ("ways", ((0, 2, 4),))), True)
        self.assertEqual(most_ways(without_links(DIAMOND, (0, 2, 4)), 3), 0)
        self.assertEqual(most_ways(DIAMOND, 3), 2)

    def test_two_least_cuts_neither_within_the_other(self):
        net = Net(4, ((0, 1), (0, 2), (1, 3), (2, 3)))
        self.assertIs(is_least_cut(net, 3, (0, 1)), True)
        self.assertIs(is_least_cut(net, 3, (0, 2)), True)

    def test_ways_to_several_sinks_need_a_link_twice(self):
        net = Net(3, ((0, 1), (1, 2)))
        self.assertEqual([most_ways(net, 1), most_ways(net, 2), all_ways(net, 0, 1), all_ways(net, 0, 2)], [1, 1, [(0,)], [(0, 1)]])

    def test_link_on_no_way_stands_in_a_cut(self):
        net = Net(3, ((0, 1), (0, 2)))
        self.assertNotIn(1, [index for way in all_ways(net, 0, 1) for index in way])
        self.assertEqual(cut_links(net, (0,)), (0, 1))
