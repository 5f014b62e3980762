"""Plans."""

from rowsthrough.base.fields import Field, need_base, need_number
from rowsthrough.base.matrices import is_told, unpacked_rows
from rowsthrough.base.reckoning import is_from
from rowsthrough.bent.telling import MOST_BENT, does_tell, is_code, need_code, need_few_choices
from rowsthrough.code.linear import raised_all, unit_numbers
from rowsthrough.errors import InvalidOperation, TooMany
from rowsthrough.hide.hiding import does_hide, need_few_lots
from rowsthrough.link.allsinks import code_or_cut, is_sink_cut
from rowsthrough.link.linkcodes import MOST_SIZE
from rowsthrough.net.flows import weakest
from rowsthrough.net.nets import need_net, need_sinks


def are_numbers(value):
    """Whether the value is a tuple (r, t, s, k) of integers, r from 1 to 6 and the others from 0 to 6."""
    if not isinstance(value, tuple) or len(value) != 4 or not is_from(value[0], 1, MOST_SIZE):
        return False
    return all([is_from(number, 0, MOST_BENT) for number in value[1:]])


def size_of(numbers):
    """How many source words are needed."""
    r, t, s, k = numbers
    return r + 2 * t + s + k


def need_planned(net, sinks, numbers, q):
    """Raise the first error unless these are a net, sinks, numbers of not too many source words, and a base."""
    need_net(net)
    need_sinks(net, sinks)
    if not are_numbers(numbers):
        raise InvalidOperation("no such numbers")
    need_base(q)
    if size_of(numbers) > MOST_SIZE:
        raise TooMany(MOST_SIZE)


def need_few(net, t, s, k):
    """Raise TooMany if more is to be looked at than can be."""
    need_few_choices(net, t, s)
    need_few_lots(net, k)


def keeps(net, code, sinks, t, s, k):
    """Whether the code keeps these numbers for the sinks."""
    return does_hide(net, code, k) and all([does_tell(net, code, sink, t, s) for sink in sinks])


def plan_or_cut(net, sinks, numbers, q):
    """A code that keeps the numbers for the sinks, or a sink and a cut for it with too few links."""
    need_planned(net, sinks, numbers, q)
    r, k, n = numbers[0], numbers[3], size_of(numbers)
    answer = code_or_cut(net, sinks, n, q)
    if answer[0] == "cut":
        return answer
    field = Field(q, n)
    rows = unpacked_rows(field, [raised_all(field, unit_numbers(field), turns) for turns in range(k + r)])
    return "plan", (field, answer[1], rows[k:] + rows[:k], r)


def is_plan_or_cut(net, sinks, numbers, q, value):
    """Whether the value is a code that keeps the numbers for the sinks, or a sink and a cut with too few links."""
    need_planned(net, sinks, numbers, q)
    r, t, s, k = numbers
    need_few(net, t, s, k)
    if not is_told(value, "plan"):
        return is_sink_cut(net, sinks, size_of(numbers), value)
    code = value[1]
    if not is_code(net, code) or code[0].q != q or code[3] != r:
        return False
    return keeps(net, code, sinks, t, s, k)


def does_keep(net, code, sinks, t, s, k):
    """Whether the code keeps these numbers for the sinks."""
    need_code(net, code)
    need_sinks(net, sinks)
    for number in (t, s, k):
        need_number(number, 0, MOST_BENT)
    need_few(net, t, s, k)
    return keeps(net, code, sinks, t, s, k)


def room(net, sinks):
    """The least number of links of all cuts for one of the sinks."""
    return weakest(net, sinks)[0]


def frontier(net, sinks):
    """All numbers (r, t, s, k) that fill the room."""
    most = room(net, sinks)
    if most > MOST_SIZE:
        raise TooMany(MOST_SIZE)
    return tuple([
        (r, t, s, most - r - 2 * t - s)
        for r in range(1, most + 1) for t in range((most - r) // 2 + 1) for s in range(most - r - 2 * t + 1)
    ])
