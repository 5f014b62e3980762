"""Without mixing."""

from rowsthrough.base.fields import need_number
from rowsthrough.base.matrices import is_told
from rowsthrough.base.reckoning import is_from, number_power
from rowsthrough.errors import InvalidOperation, TooMany
from rowsthrough.net.flows import is_small_cut, ways_or_cut, weakest
from rowsthrough.net.nets import into, need_net, need_sink, need_sinks

MOST_LABELS = 100000
MOST_WORDS = 6


def need_words(net, n):
    """Raise the first error unless these are a net and a number of words."""
    need_net(net)
    need_number(n, 1, MOST_WORDS)


def words_at(net, n, plan, point):
    """The ascending tuple of the words that links out of the point can carry; the plan may lack those links."""
    if point == 0:
        return tuple(range(n))
    come = [plan[link] for link in into(net, point)]
    return tuple([word for word in range(n) if word in come])


def are_labels(net, n, value):
    """Whether the value is a plain plan."""
    if not isinstance(value, tuple) or len(value) != len(net.links):
        return False
    if not all([word is None or is_from(word, 0, n - 1) for word in value]):
        return False
    carried = [(link[0], word) for link, word in zip(net.links, value) if word is not None]
    return all([word in words_at(net, n, value, tail) for tail, word in carried])


def need_plan(net, n, plan):
    """Raise the first error unless these are a net, a number of words and a plain plan."""
    need_words(net, n)
    if not are_labels(net, n, plan):
        raise InvalidOperation("no plain plan")


def brings_all(net, n, plan, points):
    """Whether all of the points get all words."""
    return all([len(words_at(net, n, plan, point)) == n for point in points])


def is_plain(net, n, value):
    """Whether the value is a plain plan."""
    need_words(net, n)
    return are_labels(net, n, value)


def gets(net, n, plan, point):
    """The words that the point gets."""
    need_plan(net, n, plan)
    need_sink(net, point)
    return words_at(net, n, plan, point)


def plain_code(net, n, plan):
    """The link code that carries what the plan tells."""
    need_plan(net, n, plan)
    code = []
    for (tail, _), word in zip(net.links, plan):
        ahead = list(range(n)) if tail == 0 else [plan[link] for link in into(net, tail)]
        numbers = [0] * len(ahead)
        if word is not None:
            numbers[ahead.index(word)] = 1
        code.append(tuple(numbers))
    return tuple(code)


def trees(net, n, plan):
    """For each word the links that carry it."""
    need_plan(net, n, plan)
    return tuple([tuple([link for link, carried in enumerate(plan) if carried == word]) for word in range(n)])


def to_one(net, n, sink):
    """A plan by which the sink gets all words, or a cut for it with too few links."""
    need_words(net, n)
    need_sink(net, sink)
    kind, found = ways_or_cut(net, sink, n)
    if kind == "cut":
        return kind, found
    plan = [None] * len(net.links)
    for word, way in enumerate(found):
        for link in way:
            plan[link] = word
    return "plan", tuple(plan)


def is_to_one(net, n, sink, value):
    """Whether the value is a plan by which the sink gets all words, or a cut for it with too few links."""
    need_words(net, n)
    need_sink(net, sink)
    if is_told(value, "plan"):
        return are_labels(net, n, value[1]) and brings_all(net, n, value[1], (sink,))
    return is_told(value, "cut") and is_small_cut(net, sink, n, value[1])


def to_all(net, n):
    """A plan by which all points get all words, or the least point into which too few links lead."""
    need_words(net, n)
    plan = [None] * len(net.links)
    for point in range(1, net.points):
        links = into(net, point)
        if len(links) < n:
            return "point", point
        # All tails have all words: they are lesser points.
        for word in range(n):
            plan[links[word]] = word
    return "plan", tuple(plan)


def is_to_all(net, n, value):
    """Whether the value is a plan by which all points get all words, or a point into which too few links lead."""
    need_words(net, n)
    if is_told(value, "plan"):
        return are_labels(net, n, value[1]) and brings_all(net, n, value[1], tuple(range(1, net.points)))
    if not is_told(value, "point") or not is_from(value[1], 1, net.points - 1):
        return False
    return len(into(net, value[1])) < n


def need_few_plans(net, n):
    """Raise TooMany if there are more plans than can be tried."""
    if number_power(n + 1, len(net.links)) > MOST_LABELS:
        raise TooMany(MOST_LABELS)


def first_plan(net, n, sinks, begun):
    """A plan with these words for the first links by which all sinks get all words; None if there is none."""
    if len(begun) == len(net.links):
        return begun if brings_all(net, n, begun, sinks) else None
    # A link that could carry a word, but carries none, brings nothing more than with that word.
    words = words_at(net, n, begun, net.links[len(begun)][0])
    for word in words if words else (None,):
        found = first_plan(net, n, sinks, begun + (word,))
        if found is not None:
            return found
    return None


def to_some(net, n, sinks):
    """A plan by which all sinks get all words, or that there is none."""
    need_words(net, n)
    need_sinks(net, sinks)
    need_few_plans(net, n)
    plan = first_plan(net, n, sinks, ())
    return ("none",) if plan is None else ("plan", plan)


def greatest_plain(net, sinks):
    """The greatest number of words for which there is a plan by which all sinks get all of them."""
    need_net(net)
    need_sinks(net, sinks)
    n = min(weakest(net, sinks)[0], MOST_WORDS)
    need_few_plans(net, n)
    while n and first_plan(net, n, sinks, ()) is None:
        n = n - 1
    return n
