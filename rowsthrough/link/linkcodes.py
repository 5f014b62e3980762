"""Link codes."""

from rowsthrough.base.fields import need_base, need_field, need_number
from rowsthrough.base.matrices import answer_numbers, are_so_many_words, base_rank, digits_field, is_told
from rowsthrough.base.reckoning import are_digits, digits_of, evened, packed_all, summed, unit_rows, unpacked_all
from rowsthrough.errors import InvalidCode, InvalidMatrix, InvalidWord
from rowsthrough.net.nets import into, need_net, need_sink

MOST_SIZE = 6


def are_mixings(net, q, n, value):
    """Whether the value is a link code of size n over q."""
    if not isinstance(value, tuple) or len(value) != len(net.links):
        return False
    many = [n] + [len(into(net, point)) for point in range(1, net.points)]
    return all([are_digits(q, many[link[0]], numbers) for link, numbers in zip(net.links, value)])


def need_link_code(net, q, n, code):
    """Raise InvalidCode unless this is a link code of size n over q."""
    if not are_mixings(net, q, n, code):
        raise InvalidCode("no link code of this size")


def need_mixing(net, q, n):
    """Raise the first error unless these are a net, a base and a size."""
    need_net(net)
    need_base(q)
    need_number(n, 1, MOST_SIZE)


def led(net, q, many, code, begun, added, silent):
    """The packed rows of so many digits that all links carry.

    `begun` are those of the source; `added` has one for each link, that is added there; silent links carry zero.
    """
    found, come = [], [[] for _ in range(net.points)]
    come[0] = begun
    for index, (tail, head) in enumerate(net.links):
        number = 0
        if index not in silent:
            total = sum([factor * row for factor, row in zip(code[index], come[tail])])
            number = evened(q, many, total + added[index])
        found.append(number)
        # All links into a tail stand ahead of those out of it.
        come[head].append(number)
    return found


def vector_rows(net, q, n, code, silent):
    """The packed vectors of all links, those of silent ones being zero."""
    # Vectors are what is carried if the source words are one in one place each.
    return led(net, q, n, code, unit_rows(n), [0] * len(net.links), silent)


def is_link_code(net, q, n, value):
    """Whether the value is a link code of size n over q."""
    need_mixing(net, q, n)
    return are_mixings(net, q, n, value)


def vectors(net, q, n, code):
    """The vectors of all links."""
    need_mixing(net, q, n)
    need_link_code(net, q, n, code)
    return tuple([digits_of(n, row) for row in vector_rows(net, q, n, code, ())])


def sink_rows(net, q, n, code, sink):
    """The rows of the point."""
    found = vectors(net, q, n, code)
    need_sink(net, sink)
    return tuple([found[index] for index in into(net, sink)])


def sink_rank(net, q, n, code, sink):
    """The rank of the point."""
    return base_rank(q, sink_rows(net, q, n, code, sink))


def need_carried(net, field, n, code):
    """Raise the first error unless these are a net, a field, a size and a link code over its base."""
    need_net(net)
    need_field(field)
    need_number(n, 1, MOST_SIZE)
    need_link_code(net, field.q, n, code)


def need_source_words(field, n, words):
    """Raise InvalidWord unless these are n words."""
    if not are_so_many_words(field, n, words):
        raise InvalidWord("not as many words as the size tells")


def carried(net, field, n, code, words):
    """The words that all links carry."""
    need_carried(net, field, n, code)
    need_source_words(field, n, words)
    found = led(net, field.q, field.m, code, packed_all(words), [0] * len(net.links), ())
    return unpacked_all(field, found)


def need_wanted(q, n, wanted):
    """Raise InvalidMatrix unless these are n base numbers."""
    if not are_digits(q, n, wanted):
        raise InvalidMatrix("not as many base numbers as the size tells")


def had_from(net, q, n, code, sink, wanted):
    """Base numbers for the links into the sink that make the wanted ones, or what bars them."""
    rows = sink_rows(net, q, n, code, sink)
    need_wanted(q, n, wanted)
    # Each place of the vectors asks for one sum.
    places = [[row[place] for row in rows] for place in range(n)]
    kind, numbers = answer_numbers(digits_field(q), places, wanted, len(rows))
    return "sum" if kind == "solution" else "barred", tuple(numbers)


def is_had_from(net, q, n, code, sink, wanted, value):
    """Whether the value makes the wanted base numbers, or bars them."""
    rows = sink_rows(net, q, n, code, sink)
    need_wanted(q, n, wanted)
    field = digits_field(q)
    if is_told(value, "sum") and are_digits(q, len(rows), value[1]):
        return [summed(field, [row[place] for row in rows], value[1]) for place in range(n)] == list(wanted)
    if is_told(value, "barred") and are_digits(q, n, value[1]):
        sums = [summed(field, row, value[1]) for row in rows]
        return not any(sums) and summed(field, wanted, value[1]) != 0
    return False
