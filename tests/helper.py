"""What several tests need: wrong values, checks of parameters, examples, and arithmetic of the tests' own."""

import ast
import copy
import itertools
import random

from rowsthrough import errors
from rowsthrough.base.fields import Field
from rowsthrough.net.nets import Net


def deep(turns):
    value = 0
    for _ in range(turns):
        value = (value,)
    return value


def junk():
    """Values of all kinds that [0.4] names; no parameter takes any of them."""
    return [
        None, True, False, -1, 10 ** 60, -10 ** 60, "", "one", "solution", "a\nb" * 1000, [], [0], [[1]], {}, {0: 1},
        {"a": (1,)}, (None,), (True,), ((False,), 1), ("a", "b"), ([],), deep(20), ({},), (Field(2, 1), 0), Field(7, 3),
    ]


def without(values, *kinds):
    return [value for value in values if not isinstance(value, kinds)]


def spoiled(value):
    """Copies of a right value with one thing wrong: a tuple made a list, an integer made another kind."""
    if isinstance(value, tuple):
        yield list(value)
        yield {"a": value}
        for place, member in enumerate(value):
            for wrong in spoiled(member):
                yield value[:place] + (wrong,) + value[place + 1:]
    elif isinstance(value, int):
        yield from (bool(value), None, str(value), [value], (value, value, value, value, value, value, value), 10 ** 60,
                    -10 ** 60, {})
    else:
        yield from (None, 0, "", (), [])


def told(case, function, arguments, wanted, given=()):
    """The call raises just the wanted error, keeps the number, and changes no argument."""
    before = [repr(argument) for argument in arguments]
    kept = copy.copy(arguments)
    with case.assertRaises(wanted, msg=(function.__name__, arguments)) as caught:
        function(*arguments)
    case.assertIs(type(caught.exception), wanted, (function.__name__, arguments))
    if wanted is errors.InvalidNumber:
        kept_value = caught.exception.given
        case.assertTrue(any(type(kept_value) is type(value) and kept_value == value for value in given), arguments)
    case.assertEqual([repr(argument) for argument in kept], before)


def check_parameters(case, function, right, wrong):
    """Each wrong argument is told, and the first one of two.

    `wrong` has for each parameter None or a pair of the error and of wrong values.
    """
    before = repr(right)
    function(*right)
    case.assertEqual(repr(right), before)
    for place, entry in enumerate(wrong):
        if entry is None:
            continue
        for value in entry[1]:
            arguments = list(right)
            arguments[place] = value
            told(case, function, arguments, entry[0], [value])
        for further in range(place + 1, len(wrong)):
            if wrong[further] is None:
                continue
            for value, other in zip(entry[1], itertools.cycle(wrong[further][1])):
                arguments = list(right)
                arguments[place] = value
                arguments[further] = other
                told(case, function, arguments, entry[0], [value])


def check_judge(case, function, arguments, values=()):
    """The judge raises nothing for values of any kind, and takes none of these."""
    for value in [*junk(), 0, 1, 7, (), ((),), *values]:
        before = repr(value)
        case.assertIs(function(*arguments, value), False, (function.__name__, arguments, value))
        case.assertEqual(repr(value), before)


def pairs_of(*kinds):
    """No paper: a kind with values of all kinds."""
    return [(kind, value) for kind in kinds for value in [*junk(), 0, 1, (), ((),), ((1,),), ((1, 0), (0, 1))]]


def run_examples(case, text, names):
    """The rows that begin with >>> give the row behind them, or raise what it tells."""
    rows = [row for row in text.strip().split("\n") if row]
    for row, further in zip(rows, [*rows[1:], ""]):
        if not row.startswith(">>> "):
            continue
        code = row[4:]
        wanted = further if not further.startswith(">>> ") else ""
        with case.subTest(code):
            if wanted.startswith("raises "):
                check_raised(case, code, wanted[7:], names)
            elif wanted:
                case.assertEqual(eval(code, names), ast.literal_eval(wanted))
            else:
                exec(code, names)


def check_raised(case, code, wanted, names):
    name, _, kept = wanted.partition("(")
    error = getattr(errors, name)
    with case.assertRaises(error) as caught:
        eval(code, names)
    case.assertIs(type(caught.exception), error)
    if kept:
        case.assertEqual(list(vars(caught.exception).values()), [ast.literal_eval("(" + kept)])


def tuples(q, many):
    """All tuples of so many base numbers."""
    return itertools.product(range(q), repeat=many)


def own_divides(q, divisor, whole):
    """Whether the monic polynomial divides the whole one; both with all their numbers."""
    rest = list(whole)
    while len(rest) >= len(divisor):
        factor = rest[-1]
        start = len(rest) - len(divisor)
        for place, number in enumerate(divisor):
            rest[start + place] = (rest[start + place] - factor * number) % q
        rest.pop()
    return not any(rest)


def own_is_free(q, lower):
    """Whether no monic polynomial of a degree from 1 to m // 2 divides this one, all of them being tried."""
    whole = (*lower, 1)
    return not any(
        own_divides(q, (*divisor, 1), whole)
        for degree in range(1, len(lower) // 2 + 1)
        for divisor in tuples(q, degree)
    )


class Own:
    """Arithmetic of words, by the tests' own polynomials."""

    def __init__(self, q, m):
        self.q = q
        self.m = m
        self.lower = self.least()
        self.zero = (0,) * m
        self.one = (1,) + (0,) * (m - 1)

    def least(self):
        if self.m == 1:
            return (0,)
        # Those with the first number 0 are multiples of x.
        for first in range(1, self.q):
            for further in tuples(self.q, self.m - 1):
                if own_is_free(self.q, (first, *further)):
                    return (first, *further)

    def words(self):
        return [tuple(reversed(digits)) for digits in tuples(self.q, self.m)]

    def plus(self, one, other):
        return tuple((a + b) % self.q for a, b in zip(one, other))

    def minus(self, one, other):
        return tuple((a - b) % self.q for a, b in zip(one, other))

    def times(self, one, other):
        numbers = [0] * (2 * self.m - 1)
        for i, a in enumerate(one):
            for j, b in enumerate(other):
                numbers[i + j] += a * b
        while len(numbers) > self.m:
            last = numbers.pop()
            for place, number in enumerate(self.lower):
                numbers[len(numbers) - self.m + place] -= last * number
        return tuple(number % self.q for number in numbers)

    def power(self, word, number):
        found = self.one
        for bit in bin(number)[2:]:
            found = self.times(found, found)
            if bit == "1":
                found = self.times(found, word)
        return found

    def raised(self, word, turns):
        for _ in range(turns):
            word = self.power(word, self.q)
        return word

    def inverse(self, word):
        return self.power(word, self.q ** self.m - 2) if self.q ** self.m > 2 else word

    def total(self, words):
        found = self.zero
        for word in words:
            found = self.plus(found, word)
        return found

    def dot(self, one, other):
        assert len(one) == len(other)
        return self.total(self.times(a, b) for a, b in zip(one, other))

    def echelon(self, rows):
        """The echelon of word rows, by steps on one column after another."""
        left = [list(row) for row in rows]
        done = []
        for column in range(len(left[0]) if left else 0):
            begun = next((row for row in left if row[column] != self.zero), None)
            if begun is None:
                continue
            left.remove(begun)
            factor = self.inverse(begun[column])
            begun = [self.times(factor, word) for word in begun]
            left = [self.cleared(row, begun, column) for row in left]
            done = [self.cleared(row, begun, column) for row in done] + [begun]
        return tuple(tuple(row) for row in done)

    def cleared(self, row, begun, column):
        factor = row[column]
        return [self.minus(word, self.times(factor, other)) for word, other in zip(row, begun)]

    def product(self, one, other):
        columns = list(zip(*other))
        return tuple(tuple(self.dot(row, column) for column in columns) for row in one)

    def unit(self, many):
        return tuple(tuple(self.one if i == j else self.zero for j in range(many)) for i in range(many))


class OwnPolynomials(Own):
    """Linearised polynomials, by the tests' own coefficients."""

    def value(self, polynomial, word):
        return self.total(self.times(c, self.raised(word, i)) for i, c in enumerate(polynomial))

    def trimmed(self, words):
        words = list(words)
        while words and words[-1] == self.zero:
            words.pop()
        return tuple(words)

    def sum_of(self, one, other):
        many = max(len(one), len(other))
        one = (*one, *(self.zero,) * (many - len(one)))
        other = (*other, *(self.zero,) * (many - len(other)))
        return self.trimmed(self.plus(a, b) for a, b in zip(one, other))

    def behind(self, one, other):
        found = [self.zero] * (len(one) + len(other))
        for i, a in enumerate(one):
            for j, b in enumerate(other):
                found[i + j] = self.plus(found[i + j], self.times(a, self.raised(b, i)))
        return self.trimmed(found)

    def polynomials(self, many):
        """All polynomials with at most so many coefficients."""
        return [self.trimmed(words) for words in itertools.product(self.words(), repeat=many)]

    def random_polynomial(self, random, many):
        """A polynomial with just so many coefficients."""
        words = list(random_words(random, self.q, self.m, many))
        if words and words[-1] == self.zero:
            words[-1] = self.one
        return tuple(words)

    def span(self, words):
        """All sums of base numbers times the words."""
        found = {self.zero}
        for word in words:
            found = {
                self.plus(known, tuple(c * digit % self.q for digit in word)) for known in found for c in range(self.q)
            }
        return found

    def rank(self, words):
        return own_rank(self.q, words)

    def wrong_rank(self, points, received, polynomial):
        return self.rank([self.minus(word, self.value(polynomial, point)) for word, point in zip(received, points)])


def lifted_rows(rows):
    """Base rows as word rows of a field of degree 1."""
    return tuple(tuple((number,) for number in row) for row in rows)


def lowered_rows(rows):
    return tuple(tuple(word[0] for word in row) for row in rows)


def own_rank(q, words):
    """The rank over the base, by steps on one column after another."""
    left = [list(word) for word in words]
    rank = 0
    for column in range(len(left[0]) if left else 0):
        begun = next((row for row in left if row[column]), None)
        if begun is None:
            continue
        rank += 1
        left.remove(begun)
        # Rows are multiplied instead of divided: so no inverse is needed.
        left = [[(begun[column] * a - row[column] * b) % q for a, b in zip(row, begun)] for row in left]
    return rank


def random_words(random, q, m, many):
    return tuple(tuple(random.randrange(q) for _ in range(m)) for _ in range(many))


def random_rows(random, q, many, columns):
    return tuple(tuple(random.randrange(q) for _ in range(columns)) for _ in range(many))


def random_word_rows(random, q, m, many, columns):
    return tuple(random_words(random, q, m, columns) for _ in range(many))


def wrong_nets():
    return [*junk(), 0, 4, (4, ()), ((0, 1),), "net of 2 points, 0 links", [4, ()]]


def wrong_fields():
    return [*without(junk(), Field), 0, 2, (3, 2), (), "field of 2 to the power 1", [2, 1]]


def wrong_bases():
    return [*junk(), 0, 1, 4, 6, 9, 14, 17, "2", (2,), [2], 10 ** 59]


def wrong_sizes():
    """No sizes n."""
    return [*junk(), 0, 7, 8, "1", (1,), [1], 10 ** 59]


def wrong_numbers(high):
    """No integers from 0 to `high`."""
    return [*junk(), high + 1, high + 2, "0", (0,), [0], 10 ** 59]


def wrong_points(net):
    """No points of the net other than the source."""
    return [*junk(), 0, net.points, net.points + 1, "1", (1,), [1], 10 ** 59]


def wrong_sinks(net, right):
    """No sinks of the net."""
    return [
        *junk(), 0, 1, (), *spoiled(right), (0,), (0, 1), (1, 1), (2, 1), (net.points,), (1, net.points), (right,), (-1, 1),
        (1, 2, 3, 4, 5, 6, 7),
    ]


def wrong_lots(net, right):
    """No ascending tuples of links."""
    many = len(net.links)
    return [*junk(), 0, 1, *spoiled(right), (many,), (0, many), (1, 0), (0, 0), (right, ), (-1,), (-1, 0), "01", (0, (1,))]


def wrong_wrongs(net, field, right):
    """No wrong links of the net with words of the field."""
    one, many = (1,) * field.m, len(net.links)
    return [
        *junk(), 0, 1, *spoiled(right), (1, one), ((1,),), ((1, one, 0),), ((1, one + (0,)),), ((1, one[1:]),),
        ((1, one[1:] + (field.q,)),), ((many, one),), ((-1, one),), ((1, one), (0, one)), ((1, one), (1, one)), ((one, 1),),
        ([1, one],), ((1, list(one)),), ((True, one),), ((1, (True,) + one[1:]),), (right,), (one,), ((1, None),),
    ]


def random_net(chance, points, many):
    pairs = list(itertools.combinations(range(points), 2))
    return Net(points, tuple(sorted(chance.choice(pairs) for _ in range(many))))


def all_ways(net, begin, end):
    """All ways, by going on from each link to all that begin where it ends."""
    if begin == end:
        return [()]
    found = []
    for index, (tail, head) in enumerate(net.links):
        if tail == begin:
            found.extend((index, *way) for way in all_ways(net, head, end))
    return found


def subsets(members):
    for many in range(len(members) + 1):
        yield from itertools.combinations(members, many)


def drawn_nets(seed, most_links=20, most_points=10):
    """Nets with parallel links, dead ends, points that nothing leads to, none or many links."""
    chance = random.Random(seed)
    shapes = [
        (2, 0), (2, 1), (2, 5), (3, 3), (3, 6), (4, 0), (4, 4), (4, 7), (5, 5), (5, 8), (5, 12), (6, 7), (6, 10), (6, 16),
        (7, 9), (7, 14), (8, 12), (8, 20), (9, 15), (10, 20), (10, 16), (10, 6),
    ]
    for points, many in shapes:
        if many <= most_links and points <= most_points:
            yield random_net(chance, points, many)


def own_cut_links(net, cut):
    return tuple(index for index, (tail, head) in enumerate(net.links) if tail in cut and head not in cut)


def all_cuts(net, sink):
    """All cuts for the sink."""
    return [(0, *points) for points in subsets([point for point in range(1, net.points) if point != sink])]


def least_number(net, sink):
    """The least number of links of a cut, by trying all."""
    return min(len(own_cut_links(net, cut)) for cut in all_cuts(net, sink))


def random_link_code(chance, net, q, n, zeros=0):
    """A link code, a number of which is zero once more in so many of ten tries."""
    def number():
        return 0 if chance.randrange(10) < zeros else chance.randrange(q)

    heads = [head for _, head in net.links]
    return tuple(tuple(number() for _ in range(heads.count(tail) if tail else n)) for tail, _ in net.links)


def own_sum(q, numbers, words, many):
    """The sum of the words of so many digits, each times its number."""
    assert len(numbers) == len(words)
    return tuple(sum(number * word[place] for number, word in zip(numbers, words)) % q for place in range(many))


def own_carried(net, q, many, code, words, wrong=(), silent=()):
    """What all links carry, link by link: words of so many digits."""
    found, added = [], dict(wrong)
    for index, (tail, _) in enumerate(net.links):
        come = words if tail == 0 else [found[k] for k in range(index) if net.links[k][1] == tail]
        word = own_sum(q, code[index], come, many)
        if index in added:
            word = tuple((a + b) % q for a, b in zip(word, added[index]))
        found.append((0,) * many if index in silent else word)
    return tuple(found)


def own_units(many):
    return tuple(tuple(int(i == j) for j in range(many)) for i in range(many))


def own_vectors(net, q, n, code, silent=()):
    return own_carried(net, q, n, code, own_units(n), (), silent)


def own_into(net, point):
    return tuple(index for index, (_, head) in enumerate(net.links) if head == point)


def own_rows(net, q, n, code, point, silent=()):
    found = own_vectors(net, q, n, code, silent)
    return tuple(found[index] for index in own_into(net, point))


def wrong_link_codes(net, q, code):
    """No link codes of the size of this one over q."""
    found = [*junk(), 0, 1, *spoiled(code), code[:-1], (*code, ()), (*code, (0,)), [*code], (code,), ("code", code)]
    for index, numbers in enumerate(code):
        for wrong in (numbers[:-1], (*numbers, 0), None, 0, list(numbers)):
            if wrong != numbers:
                found.append((*code[:index], wrong, *code[index + 1:]))
        for place in range(len(numbers)):
            for wrong in (q, -1, True, False, "0", (0,)):
                spoilt = (*numbers[:place], wrong, *numbers[place + 1:])
                found.append((*code[:index], spoilt, *code[index + 1:]))
    return found


def random_code(chance, net, q, m, n, many, messages, zeros=0):
    """A code with so many rows of n words, the first ones for so many message words."""
    mixing = random_link_code(chance, net, q, n, zeros)
    return Field(q, m), mixing, random_word_rows(chance, q, m, many, n), messages


def own_sink_words(net, code, sink, silent):
    """For each row the words on the links into the sink if its word alone is sent, and is one."""
    field, mixing, rows, _ = code
    links = own_into(net, sink)
    found = [own_carried(net, field.q, field.m, mixing, row, (), silent) for row in rows]
    return tuple(tuple(words[link] for link in links) for words in found)


def own_transfers(net, code, sink, silent, lot):
    """For each link of the lot how many times a word added there is heard on each link into the sink."""
    field, mixing, rows, _ = code
    links, nought, found = own_into(net, sink), ((0,),) * len(rows[0]), []
    for link in lot:
        words = own_carried(net, field.q, 1, mixing, nought, ((link, (1,)),), silent)
        found.append(tuple(words[into][0] for into in links))
    return tuple(found)


def own_source(own, code, message, drawn):
    """The source words."""
    columns = zip(*code[2])
    return tuple(own.dot(column, (*message, *drawn)) for column in columns)


def own_heard(own, net, code, sink, silent, sending):
    """The words that are heard on the links into the sink, link by link."""
    message, drawn, wrong = sending
    words = own_carried(net, own.q, own.m, code[1], own_source(own, code, message, drawn), wrong, silent)
    return tuple(words[link] for link in own_into(net, sink))


def wrong_codes(net, code):
    """No codes for the net, near this one."""
    field, mixing, rows, messages = code
    found = [*junk(), 0, 1, (), code[:3], (*code, 0), list(code), (code,), ("plan", code), *spoiled(code)]
    found += [(value, mixing, rows, messages) for value in wrong_fields()[::3]]
    found += [(field, value, rows, messages) for value in wrong_link_codes(net, field.q, mixing)[::3]]
    found += [(field, mixing, rows, value) for value in [*junk(), 0, len(rows) + 1, "1", (1,), -1]]
    other = Field(field.q, field.m % 6 + 1)
    wide = [(*row, row[0]) for row in rows]
    wrong = [
        (), (rows[0],) * 13, (*rows, wide[0]), tuple(wide), tuple(row[:-1] for row in rows), list(rows), rows[0], (rows,),
        ((other.zero,) * len(rows[0]),), (*rows, (other.one,) * len(rows[0])), ((),), ((field.zero,) * 7,), (*rows, ()),
        (((field.q,) * field.m,) * len(rows[0]),),
    ]
    found += [(field, mixing, value, 1) for value in wrong]
    found.append((other, mixing, rows, messages))
    return found


KNOWN = {}


def own_field(q, m):
    """The tests' own arithmetic, made once for each field."""
    if (q, m) not in KNOWN:
        KNOWN[q, m] = Own(q, m)
    return KNOWN[q, m]


def own_of(code):
    return own_field(code[0].q, code[0].m)


def choices(net, t, s):
    many = len(net.links)
    for silent in itertools.combinations(range(many), min(s, many)):
        others = [link for link in range(many) if link not in silent]
        for lot in itertools.combinations(others, min(2 * t, len(others))):
            yield silent, lot


def asked_rows(net, code, sink, silent, lot):
    """What a reader's words have to bring, as rows of words: those of the code's rows, and of the lot."""
    own = own_of(code)
    lifted = [
        tuple((number,) + (0,) * (own.m - 1) for number in row) for row in own_transfers(net, code, sink, silent, lot)
    ]
    return [*own_sink_words(net, code, sink, silent), *lifted]


def has_reader(net, code, sink, silent, lot):
    """By ranks: the sides do not raise the rank of the rows."""
    own, rows = own_of(code), asked_rows(net, code, sink, silent, lot)
    sides = [
        tuple(own.one if place == index else own.zero for index in range(code[3])) for place in range(len(rows))
    ]
    wide = [(*row, *side) for row, side in zip(rows, sides)]
    return len(own.echelon(wide)) == len(own.echelon(rows))


def own_sendings(own, net, code, silent, t):
    """All sendings with at most t wrong links, none with the zero word."""
    words, many = own.words(), len(code[2])
    nonzero = [word for word in words if word != own.zero]
    others = [link for link in range(len(net.links)) if link not in silent]
    for some in itertools.product(words, repeat=many):
        for number in range(t + 1):
            for lot in itertools.combinations(others, number):
                for added in itertools.product(nonzero, repeat=number):
                    yield some[:code[3]], some[code[3]:], tuple(zip(lot, added))


def tells_by_all_sendings(own, net, code, sink, t, s):
    for silent in subsets(range(len(net.links))):
        if len(silent) <= s:
            messages = {}
            for sending in own_sendings(own, net, code, silent, t):
                heard = own_heard(own, net, code, sink, silent, sending)
                if messages.setdefault(heard, sending[0]) != sending[0]:
                    return False
    return True


def own_tapped(net, code, lot):
    """What each row brings alone on the links of the lot, link by link."""
    field, mixing, rows, messages = code
    found = [own_carried(net, field.q, field.m, mixing, row) for row in rows]
    tapped = tuple(tuple(words[link] for link in lot) for words in found)
    return tapped[:messages], tapped[messages:]


def own_hides(net, code, lot):
    """By ranks: the message rows are sums of drawn rows, each times a word."""
    own, (message, drawn) = own_of(code), own_tapped(net, code, lot)
    return len(own.echelon([*drawn, *message])) == len(own.echelon(drawn))


def own_lots(net, k):
    return list(itertools.combinations(range(len(net.links)), min(k, len(net.links))))


def own_shares(net, code, lot, message):
    """By trying all drawn words."""
    own, found = own_of(code), {}
    for drawn in itertools.product(own.words(), repeat=len(code[2]) - code[3]):
        words = own_carried(net, own.q, own.m, code[1], own_source(own, code, message, drawn))
        key = tuple(words[link] for link in lot)
        found[key] = found.get(key, 0) + 1
    return found
