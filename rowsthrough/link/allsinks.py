"""One code for all sinks."""

from rowsthrough.base.fields import need_base, need_number
from rowsthrough.base.matrices import are_base_rows, digits_field, is_told, is_unit, plain_rows
from rowsthrough.base.reckoning import is_whole, row_products, summed, undoing_rows
from rowsthrough.errors import InvalidCode, InvalidLinks, InvalidNumber, Refused
from rowsthrough.link.linkcodes import MOST_SIZE, are_mixings, sink_rank, sink_rows
from rowsthrough.net.flows import are_ways_apart, is_small_cut, most_ways, ways_or_cut
from rowsthrough.net.nets import into, need_net, need_sinks


class Front:
    """The links that were taken last on the ways to one sink, told by the rows that undo their vectors."""

    def __init__(self, field, n, ways):
        self.field = field
        self.undoing = unit_lists(n)
        # For each link its way, and the link ahead of it there.
        self.steps = {}
        for place, way in enumerate(ways):
            ahead = None
            for index in way:
                self.steps[index] = (place, ahead)
                ahead = index

    def shares_in(self, index, rows):
        """How many times the vector of the link ahead stands in each of the rows, as the front is now."""
        undo = self.undoing[self.steps[index][0]]
        return [summed(self.field, undo, row) for row in rows]

    def place_ahead(self, index, taken):
        """The place of the link ahead among those taken; at the source the place of the way."""
        place, ahead = self.steps[index]
        return place if ahead is None else taken.index(ahead)

    def step(self, index, row):
        """Put the link, with its vector, in the place of the link ahead."""
        place = self.steps[index][0]
        factor = self.field.inverses[summed(self.field, self.undoing[place], row)]
        undo = multiple_row(self.field, factor, self.undoing[place])
        after = []
        for other in self.undoing:
            share = summed(self.field, other, row)
            after.append(lessened_row(self.field, other, multiple_row(self.field, share, undo)))
        after[place] = undo
        self.undoing = after


def unit_lists(many):
    """So many lists with one 1 each, from the first place to the last one."""
    return [[1 if place == further else 0 for further in range(many)] for place in range(many)]


def multiple_row(field, factor, row):
    """The base numbers, each times the factor."""
    return [factor * number % field.q for number in row]


def lessened_row(field, one, other):
    """The one row of base numbers less the other."""
    return [(left - right) % field.q for left, right in zip(one, other)]


def chosen_numbers(field, many, asked):
    """So many base numbers whose products with the shares of each of those asked do not add up to zero.

    `asked` has for each one its shares, and a place where they are 1; at most q of them, so that some
    numbers are left each time.
    """
    numbers, begun = [0] * many, []
    for shares, place in asked:
        begun.append(shares)
        right = [tried for tried in tries(field, numbers, place) if are_left(field, tried, begun)]
        numbers = right[0]
    return numbers


def tries(field, numbers, place):
    """The numbers with all multiples of the place added, and the place alone."""
    found = []
    for more in range(field.q):
        tried = list(numbers)
        tried[place] = (tried[place] + more) % field.q
        found.append(tried)
    found.append([1 if further == place else 0 for further in range(len(numbers))])
    return found


def are_left(field, numbers, begun):
    """Whether the products with none of the shares add up to zero."""
    return all([summed(field, numbers, shares) != 0 for shares in begun])


def code_of_ways(net, n, q, ways):
    """A link code for all sinks, with ways apart to each of them, at most as many sinks as q."""
    field = digits_field(q)
    fronts = [Front(field, n, apart) for apart in ways]
    code, rows = [], []
    for index, (tail, _) in enumerate(net.links):
        taken = into(net, tail)
        begun = unit_lists(n) if tail == 0 else [rows[further] for further in taken]
        stepping = [front for front in fronts if index in front.steps]
        asked = [(front.shares_in(index, begun), front.place_ahead(index, taken)) for front in stepping]
        numbers = chosen_numbers(field, len(begun), asked)
        row = [summed(field, numbers, [other[place] for other in begun]) for place in range(n)]
        for front in stepping:
            front.step(index, row)
        code.append(numbers)
        rows.append(row)
    return plain_rows(code)


def need_all(net, sinks, n):
    """Raise the first error unless these are a net, sinks of it and a size."""
    need_net(net)
    need_sinks(net, sinks)
    need_number(n, 1, MOST_SIZE)


def need_large_base(sinks, q):
    """Raise Refused if the base is below the number of sinks."""
    if q < len(sinks):
        raise Refused(("field",))


def is_for_all(net, sinks, n, q, value):
    """Whether the value is a link code of size n over q for all sinks."""
    need_all(net, sinks, n)
    need_base(q)
    return are_mixings(net, q, n, value) and all([sink_rank(net, q, n, value, sink) == n for sink in sinks])


def ways_or_first_cut(net, sinks, number):
    """("ways", ways to each sink), or ("cut", sink, cut) for the first sink with a cut of fewer links."""
    ways = []
    for sink in sinks:
        kind, found = ways_or_cut(net, sink, number)
        if kind == "cut":
            return kind, sink, found
        ways.append(found)
    return "ways", tuple(ways)


def is_sink_cut(net, sinks, number, value):
    """Whether the value is ("cut", sink, cut) with one of the sinks and a cut of fewer links for it."""
    if not isinstance(value, tuple) or len(value) != 3 or value[0] != "cut":
        return False
    return is_whole(value[1]) and value[1] in sinks and is_small_cut(net, value[1], number, value[2])


def code_or_cut(net, sinks, n, q):
    """A link code for all sinks, or a sink and a cut for it of fewer than n links."""
    need_all(net, sinks, n)
    need_base(q)
    answer = ways_or_first_cut(net, sinks, n)
    if answer[0] == "cut":
        return answer
    need_large_base(sinks, q)
    return "code", code_of_ways(net, n, q, answer[1])


def is_code_or_cut(net, sinks, n, q, value):
    """Whether the value is a link code for all sinks, or a sink and a cut for it of fewer than n links."""
    need_all(net, sinks, n)
    need_base(q)
    if is_told(value, "code"):
        return is_for_all(net, sinks, n, q, value[1])
    return is_sink_cut(net, sinks, n, value)


def ways_code(net, sinks, n, q, ways):
    """A link code for all sinks in which links that are on none of the ways have zero vectors."""
    need_all(net, sinks, n)
    need_base(q)
    if not isinstance(ways, tuple) or len(ways) != len(sinks):
        raise InvalidLinks("not a tuple of ways for each sink")
    if not all([are_ways_apart(net, sink, n, apart) for sink, apart in zip(sinks, ways)]):
        raise InvalidLinks("not as many ways apart as the size tells")
    need_large_base(sinks, q)
    return code_of_ways(net, n, q, ways)


def rows_of_told(net, sinks, n, q, code, sink):
    """The rows of the sink: the first error unless the code is for all sinks, and this is one of them."""
    if not is_for_all(net, sinks, n, q, code):
        raise InvalidCode("no link code for all sinks")
    if not is_whole(sink) or sink not in sinks:
        raise InvalidNumber(sink)
    return sink_rows(net, q, n, code, sink)


def known_from(net, sinks, n, q, code, sink):
    """Rows of numbers for the links into the sink, with which what these carry makes each source word."""
    rows = rows_of_told(net, sinks, n, q, code, sink)
    return plain_rows(undoing_rows(digits_field(q), rows))


def is_known_from(net, sinks, n, q, code, sink, value):
    """Whether with the rows of numbers what the links into the sink carry makes each source word."""
    rows = rows_of_told(net, sinks, n, q, code, sink)
    if not are_base_rows(q, value) or len(value) != n or len(value[0]) != len(rows):
        return False
    return is_unit(row_products(digits_field(q), value, rows))


def has_room(net, sinks, n):
    """Whether no sink has a cut of fewer than n links."""
    need_all(net, sinks, n)
    return all([most_ways(net, sink) >= n for sink in sinks])
