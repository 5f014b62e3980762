"""Helpers: whole numbers, polynomials over a base, packed words, reduced rows.

A packed word is one integer: its digit i stands WIDTH * i bits up. The product of two packed words
has the numbers of the product of the polynomials at its places, each one below 13 * 12 * 6 = 936. So more
than a thousand products can be added up before any place flows over into the next one, and a sum
of products is brought back to a word only once, by `settled`.

A packed row is likewise one integer for a row of any number of base numbers; it is added up and multiplied by
base numbers, and brought back by `evened`.
"""

LIMIT = 10 ** 60
WIDTH = 20
MASK = 2 ** 20 - 1


def is_whole(value):
    """Whether the value is an integer of at most 60 digits; True and False are none."""
    return isinstance(value, int) and not isinstance(value, bool) and -LIMIT < value < LIMIT


def is_from(value, low, high):
    """Whether the value is an integer from `low` to `high`."""
    return is_whole(value) and low <= value <= high


def are_digits(q, many, value):
    """Whether the value is a tuple of so many base numbers."""
    if not isinstance(value, tuple) or len(value) != many:
        return False
    return all([is_from(digit, 0, q - 1) for digit in value])


def number_power(number, times):
    """The number, multiplied with itself so many times; 1 for no times."""
    found = 1
    for _ in range(times):
        found = found * number
    return found


def number_inverses(q):
    """The tuple of the inverses of all base numbers, 0 for 0."""
    return (0,) + tuple([_number_inverse(q, number) for number in range(1, q)])


def _number_inverse(q, number):
    # By Fermat, as q is a prime.
    return number_power(number, q - 2) % q


def trimmed(numbers):
    """The numbers without the zeros at the end."""
    many = len(numbers)
    while many and not numbers[many - 1]:
        many = many - 1
    return numbers[:many]


def powers_of_x(q, lower, many):
    """The tuples of the numbers of x ** 0 to x ** (many - 1), modulo the monic polynomial."""
    word = [1] + [0] * (len(lower) - 1)
    found = []
    for _ in range(many):
        found.append(tuple(word))
        last = word[-1]
        word = [(digit - last * number) % q for digit, number in zip([0] + word[:-1], lower)]
    return found


def has_no_divisor(q, lower):
    """Whether no monic polynomial of a degree from 1 to m // 2 divides that with the lower numbers."""
    m = len(lower)
    powers = powers_of_x(q, lower, q * m)
    x, turned = powers[1], powers[::q]
    word = x
    for _ in range(m // 2):
        word = _summed(q, word, turned)
        # x ** (q ** k) - x is the product of all free monic polynomials whose degree divides k.
        rest = trimmed([(one - other) % q for one, other in zip(word, x)])
        if len(_shared(q, [*lower, 1], rest)) > 1:
            return False
    return True


def _summed(q, numbers, rows):
    return [sum([one * other for one, other in zip(numbers, column)]) % q for column in zip(*rows)]


def _shared(q, one, other):
    while other:
        one, other = other, _rest(q, one, other)
    return one


def _rest(q, one, other):
    rest = list(one)
    below = _number_inverse(q, other[-1])
    while len(rest) >= len(other):
        factor = rest[-1] * below
        start = len(rest) - len(other)
        for place, number in enumerate(other):
            rest[start + place] = (rest[start + place] - factor * number) % q
        rest = trimmed(rest)
    return rest


def least_free(q, m):
    """The lower numbers of the least free monic polynomial of degree m."""
    if m == 1:
        return (0,)
    # All those with the first number 0 are multiples of x.
    lower = [1] + [0] * (m - 1)
    while not has_no_divisor(q, lower):
        lower = _next_numbers(q, lower)
    return tuple(lower)


def _next_numbers(q, lower):
    place = len(lower) - 1
    while lower[place] == q - 1:
        place = place - 1
    return lower[:place] + [lower[place] + 1] + [0] * (len(lower) - place - 1)


def packed(word):
    """The packed word."""
    number = 0
    for digit in reversed(word):
        number = (number << WIDTH) | digit
    return number


def packed_all(words):
    """The list of the packed words."""
    return [packed(word) for word in words]


def unpacked(field, number):
    """The word that is packed."""
    return tuple([(number >> place) & MASK for place in field.places])


def unpacked_all(field, numbers):
    """The tuple of the words that are packed."""
    return tuple([unpacked(field, number) for number in numbers])


def digits_of(many, number):
    """The tuple of the digits of a packed row of so many."""
    return tuple([(number >> (WIDTH * place)) & MASK for place in range(many)])


def unit_rows(many):
    """The packed rows of so many digits with one 1 each, ascending by its place."""
    return [1 << (WIDTH * place) for place in range(many)]


def evened(q, many, total):
    """The packed row of so many digits for a sum of packed rows: each digit modulo q."""
    number = 0
    for place in range(0, WIDTH * many, WIDTH):
        number = number | ((((total >> place) & MASK) % q) << place)
    return number


def cleared_at(q, rows, begun, place):
    """The packed rows, to each of which so much of the one with 1 at the place is added that it is zero there modulo q.

    They stay sums: each turn adds less than 13 * 13 to a digit.
    """
    return [row + (-((row >> (WIDTH * place)) & MASK) % q) * begun for row in rows]


def parted_at(q, many, rows, place):
    """The pair of a packed row of so many digits with 1 at the place, and of all others, made zero there modulo q.

    The first is None, and the rows stay, if all of them are zero there.
    """
    lead = 0
    while lead < len(rows) and not ((rows[lead] >> (WIDTH * place)) & MASK) % q:
        lead = lead + 1
    if lead == len(rows):
        return None, rows
    factor = _number_inverse(q, ((rows[lead] >> (WIDTH * place)) & MASK) % q)
    begun = evened(q, many, rows[lead] * factor)
    return begun, cleared_at(q, rows[:lead] + rows[lead + 1:], begun, place)


def echelon_between(q, many, rows, begin, end):
    """Packed rows, for all sums of multiples of these, whose digits from `begin` to before `end` are the echelon."""
    found = []
    for place in range(begin, end):
        begun, rows = parted_at(q, many, rows, place)
        if begun is not None:
            found = cleared_at(q, found, begun, place) + [begun]
    return [evened(q, many, row) for row in found]


def tidied(field, total):
    """The packed word for a sum of packed words: each digit modulo q."""
    number = 0
    for place in field.places:
        digit = ((total >> place) & MASK) % field.q
        number = number | (digit << place)
    return number


def settled(field, total):
    """The packed word for a sum of products of packed words."""
    if field.m == 1:
        return total % field.q
    # Those places of `low` that are behind the first m ones are left aside by `tidied`.
    low, high = total, total >> (WIDTH * field.m)
    for fold in field.folds:
        low = low + ((high & MASK) % field.q) * fold
        high = high >> WIDTH
    return tidied(field, low)


def mixed(field, numbers, words):
    """The sum of the packed words, each times its base number."""
    return tidied(field, sum([number * word for number, word in zip(numbers, words)]))


def brought(field, rows, vectors):
    """For each row of packed words their sums, the words taken as often as each of the vectors tells."""
    return [[mixed(field, vector, row) for vector in vectors] for row in rows]


def less(field, one, other):
    """The packed one less the packed other word."""
    return tidied(field, one + field.full - other)


def raised_by(field, number, turns):
    """The packed word, raised so many times; it can be raised back, too."""
    for _ in range(turns % field.m):
        total = 0
        for place, turned in zip(field.places, field.turned):
            total = total + ((number >> place) & MASK) * turned
        number = tidied(field, total)
    return number


def inverted_number(field, number):
    """The packed inverse of a packed word that is not nought."""
    others, turned = 1, number
    for _ in range(field.m - 1):
        turned = raised_by(field, turned, 1)
        others = settled(field, others * turned)
    # Raised once more, the product of all raised ones is the same: so it is a lifted base number.
    norm = settled(field, others * number)
    return settled(field, others * field.inverses[norm])


def powered(field, number, times):
    """The packed word to the power `times`."""
    found = 1
    while times:
        if times & 1:
            found = settled(field, found * number)
        number = settled(field, number * number)
        times = times >> 1
    return found


def summed(field, one, other):
    """The packed sum of the products of equally many packed words."""
    return settled(field, sum([left * right for left, right in zip(one, other)]))


def reduced(field, rows):
    """The echelon of rows of packed words: a list of pairs (lead, row), ascending."""
    found = []
    for row in rows:
        left = _lessened(field, row, found)
        lead = _lead(left)
        if lead < len(left):
            factor = inverted_number(field, left[lead])
            found.append((lead, [settled(field, factor * number) for number in left]))
    done = []
    for lead, row in reversed(found):
        # The row is zero at the leads that were found before its own one, already.
        done.append((lead, _lessened(field, row, done)))
    return sorted(done)


def _lead(row):
    lead = 0
    while lead < len(row) and not row[lead]:
        lead = lead + 1
    return lead


def _lessened(field, row, found):
    left = list(row)
    for lead, other in found:
        number = settled(field, left[lead])
        if number:
            factor = field.full - number
            left = [one + factor * further for one, further in zip(left, other)]
    return [settled(field, number) for number in left]


def columns_of(rows):
    """How many columns the rows have: none without a row."""
    return len(rows[0]) if rows else 0


def kernel_rows(field, rows):
    """The kernel of rows of packed words: a list of rows."""
    many = columns_of(rows)
    pairs = reduced(field, rows)
    leads = [pair[0] for pair in pairs]
    found = []
    for column in range(many):
        if column not in leads:
            row = [0] * many
            row[column] = 1
            for lead, other in pairs:
                row[lead] = tidied(field, field.full - other[column])
            found.append(row)
    return [pair[1] for pair in reduced(field, found)]


def solution_numbers(field, rows, side, many):
    """Packed words for so many columns whose products with each row add up to its side; None if there are none."""
    pairs = reduced(field, [[*row, wanted] for row, wanted in zip(rows, side)])
    found = [0] * many
    for lead, row in pairs:
        if lead == many:
            return None
        found[lead] = row[many]
    return found


def undoing_rows(field, rows):
    """Rows of packed words, one for each column, whose product with the rows is the unit; None if there are none."""
    many = columns_of(rows)
    wide = []
    for place, row in enumerate(rows):
        unit = [0] * len(rows)
        unit[place] = 1
        wide.append([*row, *unit])
    pairs = reduced(field, wide)[:many]
    if [pair[0] for pair in pairs] != list(range(many)):
        return None
    return [pair[1][many:] for pair in pairs]


def row_products(field, one, other):
    """The product of rows of packed words."""
    columns = list(zip(*other))
    return [[summed(field, row, column) for column in columns] for row in one]
