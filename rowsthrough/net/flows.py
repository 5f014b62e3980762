"""Flows and cuts."""

from rowsthrough.base.fields import need_number
from rowsthrough.base.matrices import is_told
from rowsthrough.errors import InvalidOperation, InvalidPoints
from rowsthrough.net.nets import MOST_LINKS, is_lot, is_way, need_lot, need_net, need_sink, need_sinks


def is_cut(net, sink, value):
    """Whether the value is a cut for the sink."""
    return is_lot(value, net.points) and 0 in value and sink not in value


def are_ways_apart(net, sink, number, value):
    """Whether the value is a tuple of just so many ways apart."""
    if not isinstance(value, tuple) or len(value) != number:
        return False
    if not all([is_way(net, 0, sink, way) for way in value]):
        return False
    links = [index for way in value for index in way]
    return len(set(links)) == len(links)


def steps_from(net, begin, lot):
    """The points that are come to along links out of the lot, and back along those of it, each with its last link."""
    steps = {begin: None}
    fresh = [begin]
    while fresh:
        here = fresh.pop()
        for index, (tail, head) in enumerate(net.links):
            start, end = (head, tail) if index in lot else (tail, head)
            if start == here and end not in steps:
                steps[end] = index
                fresh.append(end)
    return steps


def with_way(net, sink, lot):
    """A flow of one way more than that of the lot; None if there is none."""
    steps = steps_from(net, 0, lot)
    if sink not in steps:
        return None
    more, here = list(lot), sink
    while here != 0:
        index = steps[here]
        tail, head = net.links[index]
        if here == head:
            more.append(index)
            here = tail
        else:
            more.remove(index)
            here = head
    return more


def flow_of(net, sink, most):
    """The pair of how many ways apart there are, at most so many, and of a flow of them."""
    number, lot = 0, []
    while number < most:
        more = with_way(net, sink, lot)
        if more is None:
            return number, lot
        number, lot = number + 1, more
    return number, lot


def ways_in(net, sink, lot):
    """Ways apart with just the links of a flow."""
    left, ways = list(lot), []
    while left:
        way, here = [], 0
        while here != sink:
            index = [further for further in left if net.links[further][0] == here][0]
            left.remove(index)
            way.append(index)
            here = net.links[index][1]
        ways.append(tuple(way))
    return tuple(ways)


def links_out_of(net, points):
    """The links that lead from one of the points to another point."""
    return tuple([index for index, (tail, head) in enumerate(net.links) if tail in points and head not in points])


def ways_or_cut(net, sink, number):
    """So many ways apart, or a cut with fewer links."""
    need_net(net)
    need_sink(net, sink)
    need_number(number, 0, MOST_LINKS)
    found, lot = flow_of(net, sink, number)
    if found == number:
        return "ways", ways_in(net, sink, lot)
    return "cut", tuple(sorted(steps_from(net, 0, lot)))


def is_ways_or_cut(net, sink, number, value):
    """Whether the value is so many ways apart, or a cut with fewer links."""
    need_net(net)
    need_sink(net, sink)
    need_number(number, 0, MOST_LINKS)
    if is_told(value, "ways"):
        return are_ways_apart(net, sink, number, value[1])
    return is_told(value, "cut") and is_small_cut(net, sink, number, value[1])


def is_small_cut(net, sink, number, value):
    """Whether the value is a cut for the sink with fewer links than the number."""
    return is_cut(net, sink, value) and len(links_out_of(net, value)) < number


def most_ways(net, sink):
    """The greatest number of ways apart."""
    need_net(net)
    need_sink(net, sink)
    return flow_of(net, sink, MOST_LINKS)[0]


def cut_links(net, cut):
    """The links of the cut."""
    need_net(net)
    if not is_lot(cut, net.points) or 0 not in cut:
        raise InvalidPoints("no ascending tuple of points with the source")
    return links_out_of(net, cut)


def least_cuts(net, sink):
    """The nearest and the farthest least cut."""
    need_net(net)
    need_sink(net, sink)
    lot = flow_of(net, sink, MOST_LINKS)[1]
    others = [index for index in range(len(net.links)) if index not in lot]
    # With links of the lot and others changed for each other, all steps lead back.
    behind = steps_from(net, sink, others)
    farthest = [point for point in range(net.points) if point not in behind]
    return tuple(sorted(steps_from(net, 0, lot))), tuple(farthest)


def is_least_cut(net, sink, value):
    """Whether the value is a least cut."""
    return is_small_cut(net, sink, most_ways(net, sink) + 1, value)


def needed_links(net, sink):
    """The links that stand in some least cut."""
    need_net(net)
    need_sink(net, sink)
    lot = flow_of(net, sink, MOST_LINKS)[1]
    # What goes through a link can be led around it just if other steps lead from its tail to its head.
    return tuple([index for index, (tail, head) in enumerate(net.links) if head not in steps_from(net, tail, lot)])


def is_flow(net, sink, lot):
    """Whether the lot is a flow for the sink."""
    more = [0] * net.points
    for index in lot:
        # What went out of the sink would be lost at a point behind it, as none leads back.
        tail, head = net.links[index]
        more[tail] = more[tail] - 1
        more[head] = more[head] + 1
    return not any([more[point] for point in range(1, net.points) if point != sink])


def parted(net, sink, lot):
    """Ways apart with just the links of the lot."""
    need_net(net)
    need_sink(net, sink)
    need_lot(net, lot)
    if not is_flow(net, sink, lot):
        raise InvalidOperation("no flow for the sink")
    return ways_in(net, sink, lot)


def weakest(net, sinks):
    """The least of the numbers of ways apart, and the least sink with it."""
    need_net(net)
    need_sinks(net, sinks)
    return min([(most_ways(net, sink), sink) for sink in sinks])
