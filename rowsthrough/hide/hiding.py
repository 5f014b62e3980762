"""What is hidden."""

from itertools import combinations
from math import comb

from rowsthrough.base.fields import need_number
from rowsthrough.base.matrices import are_so_many_words, is_told, unpacked_rows
from rowsthrough.base.reckoning import brought, less, mixed, number_power, packed_all, reduced, row_products, settled
from rowsthrough.base.reckoning import solution_numbers, tidied, unpacked_all
from rowsthrough.bent.telling import need_code
from rowsthrough.errors import InvalidWord, Refused, TooMany
from rowsthrough.hide.tapping import Tap
from rowsthrough.net.nets import MOST_LINKS, is_lot, need_lot

MOST_CHOICES = 20000


def lot_size(net, k):
    """How many links the lots have that are to be looked at."""
    return min(k, len(net.links))


def need_few_lots(net, k):
    """Raise TooMany if there are more lots than can be looked at."""
    if comb(len(net.links), lot_size(net, k)) > MOST_CHOICES:
        raise TooMany(MOST_CHOICES)


def need_taps(net, code, k):
    """Raise the first error unless these are a net, a code and a number of links."""
    need_code(net, code)
    need_number(k, 0, MOST_LINKS)
    need_few_lots(net, k)


def need_tapped(net, code, lot):
    """Raise the first error unless these are a net, a code and a lot."""
    need_code(net, code)
    need_lot(net, lot)


def need_words(field, many, words):
    """Raise InvalidWord unless these are so many words."""
    if not are_so_many_words(field, many, words):
        raise InvalidWord("not as many words as the code has such rows")


def tapped_rows(net, code, lot):
    """The tapped message rows and the tapped drawn rows."""
    need_tapped(net, code, lot)
    tap = Tap(net, code)
    vectors = tap.vectors_of(lot)
    message, drawn = brought(tap.field, tap.message_rows, vectors), brought(tap.field, tap.drawn_rows, vectors)
    return unpacked_rows(tap.field, message), unpacked_rows(tap.field, drawn)


def hiders_or_leak(net, code, lot):
    """Hiders of the lot, or a leak of it."""
    need_tapped(net, code, lot)
    return Tap(net, code).hiders_or_leak(lot)


def is_hiders_or_leak(net, code, lot, value):
    """Whether the value is hiders of the lot, or a leak of it."""
    need_tapped(net, code, lot)
    tap = Tap(net, code)
    if is_told(value, "hides"):
        return tap.are_hiders(lot, value[1])
    return is_told(value, "leak") and tap.is_leak(lot, value[1])


def hiding(net, code, k):
    """Hiders of all lots of so many links, or a lot and a leak of it."""
    need_taps(net, code, k)
    tap, found = Tap(net, code), []
    lot = tap.first_leak(lot_size(net, k), found)
    if lot is None:
        return "hides", tuple(found)
    return "leak", lot, tap.hiders_or_leak(lot)[1]


def is_hiding(net, code, k, value):
    """Whether the value is hiders of all lots of so many links, or a lot and a leak of it."""
    need_taps(net, code, k)
    tap, many = Tap(net, code), len(net.links)
    if is_told(value, "hides"):
        return are_all_hiders(tap, many, lot_size(net, k), value[1])
    if not isinstance(value, tuple) or len(value) != 3 or value[0] != "leak":
        return False
    return is_lot(value[1], many) and len(value[1]) <= k and tap.is_leak(value[1], value[2])


def are_all_hiders(tap, many, size, value):
    """Whether the value is hiders for each lot of this size, of so many links."""
    if not isinstance(value, tuple) or len(value) != comb(many, size):
        return False
    place = 0
    for lot in combinations(range(many), size):
        if not tap.are_hiders(lot, value[place]):
            return False
        place = place + 1
    return True


def does_hide(net, code, k):
    """Whether the code hides from k links."""
    need_taps(net, code, k)
    return Tap(net, code).first_leak(lot_size(net, k), []) is None


def most_hidden(net, code):
    """The greatest k from which the code hides; None if it hides from all links."""
    need_code(net, code)
    tap, everything = Tap(net, code), tuple(range(len(net.links)))
    if tap.answer(everything)[0] == "hides":
        return None
    # From as many links as have independent vectors the code does not hide: they tell what all tell.
    rank = len(tap.span(everything))
    for k in range(1, rank):
        if tap.first_leak(k, []) is not None:
            return k - 1
    return rank - 1


def other_drawn(net, code, lot, message, drawn, other):
    """Drawn words with which the other message carries the same on the lot."""
    need_tapped(net, code, lot)
    tap = Tap(net, code)
    field = tap.field
    need_words(field, len(tap.message_rows), message)
    need_words(field, len(tap.drawn_rows), drawn)
    need_words(field, len(tap.message_rows), other)
    missing = [less(field, one, two) for one, two in zip(packed_all(message), packed_all(other))]
    vectors = tap.vectors_of(lot)
    side = brought(field, row_products(field, [missing], tap.message_rows), vectors)[0]
    rows = [[mixed(field, vector, row) for row in tap.drawn_rows] for vector in vectors]
    more = solution_numbers(field, rows, side, len(drawn))
    if more is None:
        raise Refused(("leak",))
    return unpacked_all(field, [tidied(field, one + two) for one, two in zip(packed_all(drawn), more)])


def shares(net, code, lot, message):
    """For all tuples of words that come on the lot with the message, how many tuples of drawn words bring them."""
    need_tapped(net, code, lot)
    tap = Tap(net, code)
    field, vectors = tap.field, tap.vectors_of(lot)
    need_words(field, len(tap.message_rows), message)
    if number_power(field.size, len(tap.drawn_rows)) > MOST_CHOICES:
        raise TooMany(MOST_CHOICES)
    found = brought(field, row_products(field, [packed_all(message)], tap.message_rows), vectors)
    independent = reduced(field, brought(field, tap.drawn_rows, vectors))
    for _, row in independent:
        found = [summed_rows(field, one, other) for one in found for other in multiples(field, row)]
    times = number_power(field.size, len(tap.drawn_rows) - len(independent))
    return {key: times for key in sorted(unpacked_rows(field, found))}


def multiples(field, row):
    """The packed words of the row, times each word of the field."""
    factors = [0]
    for place in field.places:
        factors = [factor | (digit << place) for factor in factors for digit in range(field.q)]
    return [[settled(field, factor * word) for word in row] for factor in factors]


def summed_rows(field, one, other):
    """The sums of the packed words of two rows."""
    return [tidied(field, left + right) for left, right in zip(one, other)]
