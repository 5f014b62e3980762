"""Nets that change, and how much is kept."""

from rowsthrough.base.fields import need_number
from rowsthrough.base.matrices import is_told
from rowsthrough.base.reckoning import is_whole
from rowsthrough.bent.telling import MOST_BENT, most_wrong, need_code
from rowsthrough.link.allsinks import ways_or_first_cut
from rowsthrough.link.linkcodes import MOST_SIZE
from rowsthrough.net.flows import are_ways_apart, is_cut, links_out_of
from rowsthrough.net.nets import into, need_net, need_sinks, out_of, with_link, without_links
from rowsthrough.whole.plans import room


def need_link(net, link):
    """Raise InvalidNumber unless this is the index of a link."""
    need_number(link, 0, len(net.links) - 1)


def code_without(net, code, link):
    """The net and the code without the link."""
    need_code(net, code)
    need_link(net, link)
    head = net.links[link][1]
    place, behind = into(net, head).index(link), out_of(net, head)
    mixing = []
    for index, numbers in enumerate(code[1]):
        if index != link:
            mixing.append(numbers[:place] + numbers[place + 1:] if index in behind else numbers)
    return without_links(net, (link,)), (code[0], tuple(mixing)) + code[2:]


def code_with(net, code, tail, head):
    """The net and the code with a link more, which carries zero."""
    need_code(net, code)
    wider, link = with_link(net, tail, head)
    place, behind = into(wider, head).index(link), out_of(net, head)
    mixing = []
    for index, numbers in enumerate(code[1]):
        mixing.append(numbers[:place] + (0,) + numbers[place:] if index in behind else numbers)
    many = len(code[2][0]) if tail == 0 else len(into(net, tail))
    mixing.insert(link, (0,) * many)
    return wider, (code[0], tuple(mixing)) + code[2:]


def kept_frontier(net, code, sinks, most):
    """For each number of silent links the greatest one of wrong links with which the code tells all sinks."""
    need_code(net, code)
    need_sinks(net, sinks)
    need_number(most, 0, MOST_BENT)
    found = []
    for s in range(most + 1):
        told = [most_wrong(net, code, sink, s) for sink in sinks]
        found.append(-1 if None in told else min(told))
    return tuple(found)


def greatest_message(net, sinks, t, s, k):
    """The greatest number of message words of a plan with these numbers, None if there is none."""
    need_net(net)
    need_sinks(net, sinks)
    for number in (t, s, k):
        need_number(number, 0, MOST_BENT)
    left = min(room(net, sinks), MOST_SIZE) - 2 * t - s - k
    return left if left > 0 else None


def are_ways_for(net, sinks, number, value):
    """Whether the value has so many ways apart for each of the sinks."""
    if not isinstance(value, tuple) or len(value) != len(sinks):
        return False
    return all([are_ways_apart(net, sink, number, ways) for sink, ways in zip(sinks, value)])


def links_of_cut(net, sinks, kind, value):
    """The links of the cut if the value is (kind, sink, cut) with one of the sinks and a cut for it; else None."""
    if not isinstance(value, tuple) or len(value) != 3 or value[0] != kind:
        return None
    sink, cut = value[1:]
    if not is_whole(sink) or sink not in sinks or not is_cut(net, sink, cut):
        return None
    return links_out_of(net, cut)


def need_loss(net, sinks, link):
    """Raise the first error unless these are a net, sinks and a link."""
    need_net(net)
    need_sinks(net, sinks)
    need_link(net, link)


def loss(net, sinks, link):
    """Ways in the net without the link, as many as the room, or a cut that has the link and shows that it falls."""
    need_loss(net, sinks, link)
    answer = ways_or_first_cut(without_links(net, (link,)), sinks, room(net, sinks))
    return ("stays", answer[1]) if answer[0] == "ways" else ("falls",) + answer[1:]


def is_loss(net, sinks, link, value):
    """Whether the value is such ways, or such a cut."""
    need_loss(net, sinks, link)
    number = room(net, sinks)
    if is_told(value, "stays"):
        return are_ways_for(without_links(net, (link,)), sinks, number, value[1])
    links = links_of_cut(net, sinks, "falls", value)
    return links is not None and len(links) == number and link in links


def gain(net, sinks, tail, head):
    """Ways in the net with the link, one more than the room, or a cut that shows that the room stays."""
    need_net(net)
    need_sinks(net, sinks)
    answer = ways_or_first_cut(with_link(net, tail, head)[0], sinks, room(net, sinks) + 1)
    return ("rises", answer[1]) if answer[0] == "ways" else ("stays",) + answer[1:]


def is_gain(net, sinks, tail, head, value):
    """Whether the value is such ways, or such a cut."""
    need_net(net)
    need_sinks(net, sinks)
    wider, _ = with_link(net, tail, head)
    number = room(net, sinks)
    if is_told(value, "rises"):
        return are_ways_for(wider, sinks, number + 1, value[1])
    # The new link does not lead out of the cut if that has as many links with it as without it.
    links = links_of_cut(wider, sinks, "stays", value)
    return links is not None and len(links) == number
