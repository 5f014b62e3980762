"""Nets and ways."""

from rowsthrough.base.reckoning import is_from
from rowsthrough.errors import InvalidLinks, InvalidNet, InvalidNumber, InvalidOperation, InvalidPoints, TooMany

MOST_POINTS = 10
MOST_LINKS = 20
MOST_SINKS = 6


def is_link(points, value):
    """Whether the value is a pair of points, the tail below the head."""
    if not isinstance(value, tuple) or len(value) != 2:
        return False
    return is_from(value[0], 0, points - 1) and is_from(value[1], value[0] + 1, points - 1)


def net_fault(points, links):
    """None for a net, else the first fault."""
    if not is_from(points, 2, MOST_POINTS):
        return ("points",)
    if not isinstance(links, tuple) or len(links) > MOST_LINKS:
        return ("links",)
    for index, link in enumerate(links):
        if not is_link(points, link):
            return "link", index
    for index in range(1, len(links)):
        if links[index] < links[index - 1]:
            return "sequence", index
    return None


class Net:
    """A net with points from 0 on, and links (tail, head)."""

    def __init__(self, points, links):
        if net_fault(points, links) is not None:
            raise InvalidNet("no points and links of a net")
        self.points = points
        self.links = links

    def __eq__(self, other):
        return isinstance(other, Net) and self.points == other.points and self.links == other.links

    def __str__(self):
        return f"net of {self.points} points, {len(self.links)} links"


def is_lot(value, many):
    """Whether the value is an ascending tuple of integers from 0 to many - 1."""
    if not isinstance(value, tuple) or not all([is_from(member, 0, many - 1) for member in value]):
        return False
    return all([value[place - 1] < value[place] for place in range(1, len(value))])


def need_net(net):
    """Raise InvalidNet unless this is a net."""
    if not isinstance(net, Net):
        raise InvalidNet("no net")


def need_point(net, point):
    """Raise InvalidNumber unless this is a point of the net."""
    if not is_from(point, 0, net.points - 1):
        raise InvalidNumber(point)


def need_sink(net, sink):
    """Raise InvalidNumber unless this is a point of the net other than the source."""
    if not is_from(sink, 1, net.points - 1):
        raise InvalidNumber(sink)


def need_sinks(net, sinks):
    """Raise InvalidPoints unless these are sinks of the net."""
    if not is_lot(sinks, net.points) or not 1 <= len(sinks) <= MOST_SINKS or 0 in sinks:
        raise InvalidPoints("no ascending tuple of 1 to 6 points from 1 on")


def need_lot(net, lot):
    """Raise InvalidLinks unless this is an ascending tuple of links."""
    if not is_lot(lot, len(net.links)):
        raise InvalidLinks("no ascending tuple of links")


def need_ends(net, begin, end):
    """Raise the first error unless these are a net and two points of it."""
    need_net(net)
    need_point(net, begin)
    need_point(net, end)


def into(net, point):
    """The links whose head is the point."""
    need_net(net)
    need_point(net, point)
    return tuple([index for index, link in enumerate(net.links) if link[1] == point])


def out_of(net, point):
    """The links whose tail is the point."""
    need_net(net)
    need_point(net, point)
    return tuple([index for index, link in enumerate(net.links) if link[0] == point])


def come_to(net, points):
    """All points to which ways lead from one of the points."""
    need_net(net)
    if not is_lot(points, net.points):
        raise InvalidPoints("no ascending tuple of points")
    found = list(points)
    # All links into a tail stand ahead of those out of it.
    for tail, head in net.links:
        if tail in found and head not in found:
            found.append(head)
    return tuple(sorted(found))


def leading(net, point):
    """All points from which ways lead to the point."""
    need_net(net)
    need_point(net, point)
    return tuple(sorted(lengths_to(net, point)))


def lengths_to(net, point):
    """For each point from which ways lead to this one, how many links the shortest one has."""
    lengths = {point: 0}
    # All links out of a head stand behind those into it.
    for tail, head in reversed(net.links):
        if head in lengths:
            length = lengths[head] + 1
            lengths[tail] = min(length, lengths.get(tail, length))
    return lengths


def way_or_shore(net, begin, end):
    """The least way of fewest links, or the least shore."""
    need_ends(net, begin, end)
    lengths = lengths_to(net, end)
    if begin not in lengths:
        return "shore", come_to(net, (begin,))
    way, here = [], begin
    while here != end:
        index = next_link(net, here, lengths)
        way.append(index)
        here = net.links[index][1]
    return "way", tuple(way)


def next_link(net, here, lengths):
    """The first link from here to a point that is one link nearer."""
    nearer = lengths[here] - 1
    return [index for index in out_of(net, here) if lengths.get(net.links[index][1]) == nearer][0]


def is_way(net, begin, end, value):
    """Whether the value is a way."""
    need_ends(net, begin, end)
    if not isinstance(value, tuple):
        return False
    here = begin
    for index in value:
        if not is_from(index, 0, len(net.links) - 1) or net.links[index][0] != here:
            return False
        here = net.links[index][1]
    return here == end


def is_shore(net, begin, end, value):
    """Whether the value is a shore."""
    need_ends(net, begin, end)
    if not is_lot(value, net.points) or begin not in value or end in value:
        return False
    return all([tail not in value or head in value for tail, head in net.links])


def number_of_ways(net, begin, end):
    """How many ways there are."""
    need_ends(net, begin, end)
    ways = [0] * net.points
    ways[begin] = 1
    for tail, head in net.links:
        ways[head] = ways[head] + ways[tail]
    return ways[end]


def without_links(net, lot):
    """The net without the links of the lot."""
    need_net(net)
    need_lot(net, lot)
    return Net(net.points, tuple([link for index, link in enumerate(net.links) if index not in lot]))


def with_link(net, tail, head):
    """The pair of the net with a link more, and of its index."""
    need_net(net)
    need_point(net, tail)
    if not is_from(head, tail + 1, net.points - 1):
        raise InvalidNumber(head)
    if len(net.links) == MOST_LINKS:
        raise TooMany(MOST_LINKS)
    new = (tail, head)
    index = len([link for link in net.links if link <= new])
    return Net(net.points, net.links[:index] + (new,) + net.links[index:]), index


def placed(net, order):
    """The pair of the net with its points in another order, and of the new indices of its links."""
    need_net(net)
    if not isinstance(order, tuple) or not all([is_from(point, 0, net.points - 1) for point in order]):
        raise InvalidPoints("no tuple of points")
    if sorted(order) != list(range(net.points)):
        raise InvalidPoints("not each point once")
    if not all([order[tail] < order[head] for tail, head in net.links]):
        raise InvalidOperation("a link would not lead to a greater point")
    moved = sorted([(order[tail], order[head], index) for index, (tail, head) in enumerate(net.links)])
    indices = [0] * len(moved)
    for new, entry in enumerate(moved):
        indices[entry[2]] = new
    return Net(net.points, tuple([entry[:2] for entry in moved])), tuple(indices)
