"""Stage 6: nets and ways."""

import itertools
import random
import unittest

from rowsthrough import errors
from rowsthrough.net import nets
from rowsthrough.net.nets import (
    MOST_LINKS, MOST_POINTS, MOST_SINKS, Net, come_to, into, is_shore, is_way, leading, net_fault, number_of_ways,
    out_of, placed, way_or_shore, with_link, without_links,
)
from tests.helper import (
    all_ways, check_judge, check_parameters, junk, random_net, run_examples, spoiled, subsets, told, without, wrong_nets,
)

EXAMPLES = """
>>> DIAMOND = Net(4, ((0, 1), (0, 2), (1, 2), (1, 3), (2, 3)))
>>> [into(DIAMOND, 3), out_of(DIAMOND, 1), come_to(DIAMOND, (2,)), leading(DIAMOND, 2), number_of_ways(DIAMOND, 0, 3), str(DIAMOND)]
[(3, 4), (2, 3), (2, 3), (0, 1, 2), 3, 'net of 4 points, 5 links']
>>> [way_or_shore(DIAMOND, 0, 3), way_or_shore(DIAMOND, 2, 1), is_way(DIAMOND, 0, 3, (0, 2, 4)), is_shore(DIAMOND, 2, 1, (2, 3)), is_way(DIAMOND, 1, 1, ())]
[('way', (0, 3)), ('shore', (2, 3)), True, True, True]
>>> AGAIN, PLACES = placed(DIAMOND, (0, 1, 2, 3))
>>> [with_link(DIAMOND, 1, 2)[1], without_links(DIAMOND, (0, 4)).links, AGAIN == DIAMOND, PLACES]
[3, ((0, 2), (1, 2), (1, 3)), True, (0, 1, 2, 3, 4)]
>>> [net_fault(3, ((0, 1), (0, 0))), net_fault(3, ((1, 2), (0, 1)))]
[('link', 1), ('sequence', 1)]
"""

DIAMOND = Net(4, ((0, 1), (0, 2), (1, 2), (1, 3), (2, 3)))
PARALLEL = Net(3, ((0, 1), (0, 1), (0, 2), (1, 2), (1, 2), (1, 2)))
BARE = Net(5, ())
WRONG_NETS = wrong_nets()
WRONG_POINTS = [*junk(), 4, 5, 10 ** 59, (1,), "1", [1]]


def some_nets():
    chance = random.Random(70)
    yield from (DIAMOND, PARALLEL, BARE, Net(2, ()), Net(2, ((0, 1),)), Net(2, ((0, 1),) * 20), Net(10, ()))
    for points, many in ((2, 3), (3, 2), (4, 6), (5, 7), (6, 9), (6, 20), (8, 12), (10, 20), (10, 9), (7, 4)):
        yield random_net(chance, points, many)
        yield random_net(chance, points, many)


def all_shores(net, begin, end):
    for points in subsets(range(net.points)):
        if begin in points and end not in points:
            if not any(tail in points and head not in points for tail, head in net.links):
                yield points


class Examples(unittest.TestCase):
    def test_examples(self):
        run_examples(self, EXAMPLES, dict(vars(nets)))

    def test_constants(self):
        self.assertEqual([MOST_POINTS, MOST_LINKS, MOST_SINKS], [10, 20, 6])


class Faults(unittest.TestCase):
    def test_nets_without_fault(self):
        for points, links in (
            (2, ()), (10, ()), (2, ((0, 1),) * 20), (10, ((0, 9), (8, 9))), (3, ((0, 1), (0, 1), (0, 2), (1, 2))),
        ):
            self.assertIsNone(net_fault(points, links))
        for net in some_nets():
            self.assertIsNone(net_fault(net.points, net.links))

    def test_points(self):
        for points in [*junk(), 0, 1, 11, 12, (2,), "2"]:
            self.assertEqual(net_fault(points, ()), ("points",))
            self.assertEqual(net_fault(points, None), ("points",))
            self.assertEqual(net_fault(points, ((0, 1), (0, 0))), ("points",))

    def test_links(self):
        for links in [*without(junk(), tuple), 0, [(0, 1)], ((0, 1),) * 21, (None,) * 21]:
            self.assertEqual(net_fault(3, links), ("links",))

    def test_link(self):
        wrong = [
            *junk(), 0, (), (0,), (0, 0), (1, 0), (0, 3), (-1, 1), (0, 1, 2), [0, 1], (0, True), (False, 1), ("0", "1"),
            (0, None), (0, 10 ** 60), (2, 3), ((0, 1),),
        ]
        for link in wrong:
            self.assertEqual(net_fault(3, (link,)), ("link", 0))
            self.assertEqual(net_fault(3, ((0, 2), link, (0, 1))), ("link", 1))
            self.assertEqual(net_fault(3, ((0, 1), (1, 2), link, link)), ("link", 2))

    def test_sequence(self):
        self.assertEqual(net_fault(3, ((0, 1), (0, 2), (0, 1), (0, 1))), ("sequence", 2))
        self.assertEqual(net_fault(4, ((1, 3), (1, 2), (0, 1))), ("sequence", 1))
        self.assertEqual(net_fault(4, ((0, 1), (0, 1), (2, 3), (1, 3))), ("sequence", 3))

    def test_first_one_of_several(self):
        self.assertEqual(net_fault(1, 0), ("points",))
        self.assertEqual(net_fault(3, ((1, 2), (0, 1), (0, 0))), ("link", 2))
        self.assertEqual(net_fault(3, ((0, 0),) * 21), ("links",))
        self.assertEqual(net_fault(3, ((0, 0), (2, 1))), ("link", 0))


class Nets(unittest.TestCase):
    def test_properties(self):
        for net in some_nets():
            self.assertEqual(str(net), "net of " + str(net.points) + " points, " + str(len(net.links)) + " links")
        net = Net(3, ((0, 1), (0, 1), (1, 2)))
        self.assertEqual([net.points, net.links], [3, ((0, 1), (0, 1), (1, 2))])

    def test_equal(self):
        made = list(some_nets())
        for net in made:
            self.assertIs(net == Net(net.points, net.links), True)
            self.assertIs(net != Net(net.points, net.links), False)
            for other in made:
                equal = (net.points, net.links) == (other.points, other.links)
                self.assertIs(net == other, equal)
                self.assertIs(net != other, not equal)
        self.assertIs(Net(3, ()) == Net(4, ()), False)
        self.assertIs(Net(3, ((0, 1),)) == Net(3, ((0, 1), (0, 1))), False)
        for value in [*junk(), 0, (4, DIAMOND.links), str(DIAMOND), (DIAMOND,)]:
            self.assertIs(DIAMOND == value, False)
            self.assertIs(DIAMOND != value, True)

    def test_no_iteration(self):
        with self.assertRaises(TypeError):
            iter(DIAMOND)
        with self.assertRaises(TypeError):
            (0, 1) in DIAMOND

    def test_it_never_changes(self):
        points, links = DIAMOND.points, DIAMOND.links
        without_links(DIAMOND, (0, 1))
        with_link(DIAMOND, 0, 3)
        placed(DIAMOND, (0, 1, 2, 3))
        come_to(DIAMOND, (0,))
        way_or_shore(DIAMOND, 0, 3)
        self.assertEqual([DIAMOND.points, DIAMOND.links], [points, links])
        self.assertTrue(DIAMOND == Net(4, ((0, 1), (0, 2), (1, 2), (1, 3), (2, 3))))

    def test_wrong_arguments(self):
        wrong = [*junk(), 0, *spoiled(DIAMOND.links), ((0, 1),) * 21, ((0, 2), (0, 1)), ((0, 4),), ((1, 1),), (0, 1)]
        check_parameters(self, Net, [4, DIAMOND.links], [
            (errors.InvalidNet, [*junk(), 0, 1, 2, 3, 11, (4,), "4"]), (errors.InvalidNet, wrong),
        ])
        check_parameters(self, net_fault, [4, DIAMOND.links], [None, None])


class LinksAndPoints(unittest.TestCase):
    def test_into_and_out_of(self):
        for net in some_nets():
            for point in range(net.points):
                heads = tuple(index for index in range(len(net.links)) if net.links[index][1] == point)
                tails = tuple(index for index in range(len(net.links)) if net.links[index][0] == point)
                self.assertEqual([into(net, point), out_of(net, point)], [heads, tails])
            self.assertEqual([into(net, 0), out_of(net, net.points - 1)], [(), ()])

    def test_come_to(self):
        for net in some_nets():
            reach = {
                begin: {end for end in range(net.points) if all_ways(net, begin, end)} for begin in range(net.points)
            }
            for points in list(subsets(range(net.points)))[:60]:
                wanted = set().union(*(reach[point] for point in points))
                self.assertEqual(come_to(net, points), tuple(sorted(wanted)))
            for point in range(net.points):
                wanted = tuple(begin for begin in range(net.points) if point in reach[begin])
                self.assertEqual(leading(net, point), wanted)

    def test_wrong_arguments(self):
        for function in (into, out_of, leading):
            check_parameters(self, function, [DIAMOND, 2], [
                (errors.InvalidNet, WRONG_NETS), (errors.InvalidNumber, WRONG_POINTS),
            ])
        points = (0, 2)
        wrong = [*junk(), 0, *spoiled(points), (2, 0), (0, 0), (0, 4), (-1, 0), (1, 2, 2), (points,)]
        check_parameters(self, come_to, [DIAMOND, points], [
            (errors.InvalidNet, WRONG_NETS), (errors.InvalidPoints, wrong),
        ])
        self.assertEqual(come_to(DIAMOND, ()), ())


class Ways(unittest.TestCase):
    def test_ways_and_shores(self):
        kinds = set()
        for net in some_nets():
            for begin, end in itertools.product(range(net.points), repeat=2):
                ways = all_ways(net, begin, end)
                self.assertEqual(number_of_ways(net, begin, end), len(ways))
                kind, found = way_or_shore(net, begin, end)
                kinds.add(kind)
                if ways:
                    self.assertEqual((kind, found), ("way", min(ways, key=lambda way: (len(way), way))))
                    self.assertIs(is_way(net, begin, end, found), True)
                else:
                    self.assertEqual(kind, "shore")
                    self.assertIs(is_shore(net, begin, end, found), True)
        self.assertEqual(kinds, {"way", "shore"})

    def test_least_of_the_shortest_ways(self):
        net = Net(5, ((0, 1), (0, 2), (0, 2), (1, 2), (1, 3), (2, 4), (2, 4), (3, 4)))
        self.assertEqual(way_or_shore(net, 0, 4), ("way", (1, 5)))
        self.assertEqual(way_or_shore(net, 0, 3), ("way", (0, 4)))
        net = Net(6, ((0, 1), (0, 2), (1, 3), (2, 5), (3, 4), (4, 5)))
        self.assertEqual(way_or_shore(net, 0, 5), ("way", (1, 3)))

    def test_least_shore_stands_in_all(self):
        for net in some_nets():
            if net.points > 7:
                continue
            for begin, end in itertools.product(range(net.points), repeat=2):
                shores = list(all_shores(net, begin, end))
                kind, found = way_or_shore(net, begin, end)
                self.assertEqual(kind == "shore", bool(shores))
                if shores:
                    self.assertIn(found, shores)
                    self.assertTrue(all(set(found) <= set(shore) for shore in shores))

    def test_begin_and_end_equal(self):
        for net in some_nets():
            for point in range(net.points):
                self.assertEqual(way_or_shore(net, point, point), ("way", ()))
                self.assertEqual(number_of_ways(net, point, point), 1)
                self.assertIs(is_way(net, point, point, ()), True)
                self.assertIs(is_shore(net, point, point, (point,)), False)

    def test_number_of_ways(self):
        self.assertEqual(number_of_ways(Net(2, ((0, 1),) * 20), 0, 1), 20)
        many = Net(6, ((0, 1),) * 4 + ((1, 2),) * 4 + ((2, 3),) * 4 + ((3, 4),) * 4 + ((4, 5),) * 4)
        self.assertEqual([number_of_ways(many, 0, 5), number_of_ways(many, 5, 0), number_of_ways(many, 1, 4)], [1024, 0, 64])

    def test_which_are_ways(self):
        for net in (DIAMOND, PARALLEL, BARE):
            tries = [way for many in range(4) for way in itertools.product(range(len(net.links)), repeat=many)]
            for begin, end in itertools.product(range(net.points), repeat=2):
                right = all_ways(net, begin, end)
                for value in tries:
                    self.assertIs(is_way(net, begin, end, value), value in right)

    def test_which_are_shores(self):
        for net in (DIAMOND, PARALLEL, BARE):
            for begin, end in itertools.product(range(net.points), repeat=2):
                right = list(all_shores(net, begin, end))
                for value in subsets(range(net.points)):
                    self.assertIs(is_shore(net, begin, end, value), value in right)

    def test_values_of_any_kind(self):
        values = [[0, 3], (1, -1), (0, True), (False, 3), (0, 3, 5), (0, -2), (0, 10 ** 60), ("0", 3), (0, None), ((0, 3),),
                  ("way", (0, 3)), (3, 0), (0,), (3,), (0, 4), (0, 3, 3)]
        self.assertIs(is_way(DIAMOND, 0, 3, (0, 3)), True)
        check_judge(self, is_way, [DIAMOND, 0, 3], values)
        values = [[2, 3], (2, True), (3, 2), (2, 2, 3), (2, 3, 4), (-1, 2, 3), (2, "3"), (2, 3, None), ("shore", (2, 3)),
                  ((2, 3),), (2,), (3,), (1, 2, 3), (2, 10 ** 60)]
        self.assertIs(is_shore(DIAMOND, 2, 1, (2, 3)), True)
        check_judge(self, is_shore, [DIAMOND, 2, 1], values)

    def test_wrong_arguments(self):
        wrong = [(errors.InvalidNet, WRONG_NETS), (errors.InvalidNumber, WRONG_POINTS), (errors.InvalidNumber, WRONG_POINTS)]
        for function in (way_or_shore, number_of_ways):
            check_parameters(self, function, [DIAMOND, 0, 3], wrong)
        for function in (is_way, is_shore):
            check_parameters(self, function, [DIAMOND, 0, 3, 0], [*wrong, None])


class Changed(unittest.TestCase):
    def test_without_links(self):
        for net in some_nets():
            lots = list(subsets(range(len(net.links)))) if len(net.links) < 7 else [(), (0, 2), tuple(range(len(net.links)))]
            for lot in lots:
                found = without_links(net, lot)
                wanted = tuple(link for index, link in enumerate(net.links) if index not in lot)
                self.assertEqual((found.points, found.links), (net.points, wanted))
            self.assertTrue(without_links(net, ()) == net)

    def test_with_a_link_there_and_back(self):
        for net in some_nets():
            for tail, head in itertools.combinations(range(net.points), 2):
                if len(net.links) < 20:
                    found, index = with_link(net, tail, head)
                    self.assertEqual(found.links[index], (tail, head))
                    self.assertEqual(found.links, tuple(sorted((*net.links, (tail, head)))))
                    self.assertTrue(all(link > (tail, head) for link in found.links[index + 1:]))
                    self.assertTrue(without_links(found, (index,)) == net)
                else:
                    with self.assertRaises(errors.TooMany) as caught:
                        with_link(net, tail, head)
                    self.assertEqual(caught.exception.limit, 20)

    def test_new_link_stands_behind_equal_ones(self):
        found, index = with_link(PARALLEL, 0, 1)
        self.assertEqual([found.links, index], [((0, 1), (0, 1), (0, 1), (0, 2), (1, 2), (1, 2), (1, 2)), 2])
        self.assertEqual(with_link(PARALLEL, 1, 2)[1], 6)
        self.assertEqual(with_link(BARE, 3, 4)[1], 0)

    def test_placed(self):
        for net in (DIAMOND, PARALLEL, Net(4, ((0, 1), (0, 1), (2, 3))), Net(4, ((1, 2), (1, 2), (1, 3))), BARE):
            upward = 0
            for order in itertools.permutations(range(net.points)):
                if all(order[tail] < order[head] for tail, head in net.links):
                    self.check_placed(net, order)
                    upward += 1
                else:
                    told(self, placed, [net, order], errors.InvalidOperation)
            self.assertGreater(upward, 0)

    def check_placed(self, net, order):
        found, places = placed(net, order)
        self.assertEqual(sorted(places), list(range(len(net.links))))
        for index, (tail, head) in enumerate(net.links):
            self.assertEqual(found.links[places[index]], (order[tail], order[head]))
            if index and net.links[index - 1] == (tail, head):
                self.assertEqual(places[index], places[index - 1] + 1)
        back = tuple(order.index(point) for point in range(net.points))
        again, further = placed(found, back)
        self.assertTrue(again == net)
        self.assertEqual(tuple(further[place] for place in places), tuple(range(len(net.links))))

    def test_placed_elsewhere(self):
        net = Net(4, ((0, 1), (0, 1), (0, 2), (2, 3)))
        found, places = placed(net, (0, 3, 1, 2))
        self.assertEqual(found.links, ((0, 1), (0, 3), (0, 3), (1, 2)))
        self.assertEqual(places, (1, 2, 0, 3))

    def test_wrong_arguments(self):
        wrong_net, lot, order = (errors.InvalidNet, WRONG_NETS), (0, 2), (0, 1, 2, 3)
        wrong = [*junk(), 0, *spoiled(lot), (2, 0), (0, 0), (0, 5), (-1, 0), (lot,)]
        check_parameters(self, without_links, [DIAMOND, lot], [wrong_net, (errors.InvalidLinks, wrong)])
        heads = [*junk(), 0, 1, 4, 5, (2,), "2", [2]]
        check_parameters(self, with_link, [DIAMOND, 1, 2], [
            wrong_net, (errors.InvalidNumber, WRONG_POINTS), (errors.InvalidNumber, heads),
        ])
        wrong = [*junk(), 0, (), *spoiled(order), (0, 1, 2), (0, 1, 2, 2), (0, 1, 2, 4), (0, 1, 2, 3, 3), (order,),
                 (-1, 0, 1, 2), (0, 1, 2, 3, 4)]
        check_parameters(self, placed, [DIAMOND, order], [wrong_net, (errors.InvalidPoints, wrong)])

    def test_too_many_links_behind_all_others(self):
        full = Net(4, ((0, 1),) * 20)
        told(self, with_link, [full, 1, 1], errors.InvalidNumber, [1])
        told(self, with_link, [full, 4, 5], errors.InvalidNumber, [4])
        told(self, with_link, [full, 1, 2], errors.TooMany)
        told(self, with_link, [full, 3, 3], errors.InvalidNumber, [3])
        self.assertEqual(len(with_link(Net(4, ((0, 1),) * 19), 1, 2)[0].links), 20)


class NoneIsTrue(unittest.TestCase):
    """[6.4]"""

    def test_points_that_the_source_does_not_come_to_can_have_links(self):
        net = Net(3, ((1, 2),))
        self.assertEqual([come_to(net, (0,)), out_of(net, 1), into(net, 2)], [(0,), (0,), (0,)])

    def test_unlike_nets_with_as_many_ways(self):
        one, other = Net(3, ((0, 1), (0, 2))), Net(3, ((0, 1), (1, 2)))
        self.assertEqual(
            [number_of_ways(one, 0, point) for point in range(3)], [number_of_ways(other, 0, point) for point in range(3)],
        )
        self.assertNotEqual(one.links, other.links)

    def test_source_can_be_led_elsewhere(self):
        self.assertEqual(placed(Net(3, ((1, 2),)), (1, 0, 2)), (Net(3, ((0, 2),)), (0,)))
