"""What a sink can tell."""

from itertools import combinations
from math import comb

from rowsthrough.base.fields import Field, are_words, need_number
from rowsthrough.base.matrices import are_so_many_words, is_told, packed_rows, unpacked_rows
from rowsthrough.base.reckoning import brought, is_from, less, packed, packed_all, summed, unpacked, unpacked_all
from rowsthrough.bent.listening import Ear, Listener
from rowsthrough.bent.wrong import are_wrong, led_bent, links_of
from rowsthrough.errors import InvalidCode, InvalidMatrix, InvalidOperation, InvalidWord, TooMany
from rowsthrough.link.linkcodes import MOST_SIZE, are_mixings
from rowsthrough.net.nets import into, is_lot, need_lot, need_net, need_sink

MOST_CHOICES = 20000
MOST_ROWS = 12
MOST_BENT = 6


def are_code_rows(field, value):
    """Whether the value is a tuple of 1 to 12 rows of as many words, 1 to 6 of them."""
    if not isinstance(value, tuple) or not 1 <= len(value) <= MOST_ROWS:
        return False
    if not all([are_words(field, row) for row in value]):
        return False
    return all([1 <= len(row) <= MOST_SIZE and len(row) == len(value[0]) for row in value])


def is_code(net, value):
    """Whether the value is a code for the net."""
    need_net(net)
    if not isinstance(value, tuple) or len(value) != 4:
        return False
    field, mixing, rows, messages = value
    if not isinstance(field, Field) or not are_code_rows(field, rows) or not is_from(messages, 1, len(rows)):
        return False
    return are_mixings(net, field.q, len(rows[0]), mixing)


def need_code(net, code):
    """Raise the first error unless these are a net and a code for it."""
    if not is_code(net, code):
        raise InvalidCode("no code for the net")


def need_told(net, code, sink):
    """Raise the first error unless these are a net, a code for it and a sink."""
    need_code(net, code)
    need_sink(net, sink)


def need_choice(net, code, sink, silent, lot):
    """Raise the first error unless these are a net, a code, a sink and two lots that share no link."""
    need_told(net, code, sink)
    need_lot(net, silent)
    need_lot(net, lot)
    if any([link in silent for link in lot]):
        raise InvalidOperation("a link is in both lots")


def need_bounds(net, code, sink, t, s):
    """Raise the first error unless these are a net, a code, a sink and how much is wrong or silent."""
    need_told(net, code, sink)
    need_number(t, 0, MOST_BENT)
    need_number(s, 0, MOST_BENT)
    need_few_choices(net, t, s)


def lot_sizes(net, t, s):
    """How many links are silent in each choice, and how many are in its lot."""
    many = len(net.links)
    silent = min(s, many)
    return silent, min(2 * t, many - silent)


def number_of_choices(links, silent, more):
    """How many choices there are of so many silent ones of the links, and of so many more."""
    return comb(links, silent) * comb(links - silent, more)


def need_few_choices(net, t, s):
    """Raise TooMany if there are more choices than can be looked at."""
    silent, more = lot_sizes(net, t, s)
    if number_of_choices(len(net.links), silent, more) > MOST_CHOICES:
        raise TooMany(MOST_CHOICES)


def are_readers(net, code, sink, value):
    """Whether the value is a tuple with for each message word a tuple of a word for each link into the sink."""
    if not isinstance(value, tuple) or len(value) != code[3]:
        return False
    return all([are_so_many_words(code[0], len(into(net, sink)), words) for words in value])


def sink_words(net, code, sink, silent):
    """For each row a word for each link into the sink: what the row's word is times there."""
    need_told(net, code, sink)
    need_lot(net, silent)
    return unpacked_rows(code[0], brought(code[0], packed_rows(code[2]), Ear(net, code, sink, silent).vectors))


def reader_or_mixed(net, code, sink, silent, lot):
    """A reader for the choice, or what is mixed."""
    need_choice(net, code, sink, silent, lot)
    return Listener(net, code, sink).reader_or_mixed(Ear(net, code, sink, silent), lot)


def is_reader_or_mixed(net, code, sink, silent, lot, value):
    """Whether the value is a reader for the choice, or is mixed."""
    need_choice(net, code, sink, silent, lot)
    listener, ear = Listener(net, code, sink), Ear(net, code, sink, silent)
    if is_told(value, "reader"):
        return are_readers(net, code, sink, value[1]) and listener.is_reader(ear, lot, value[1])
    if not isinstance(value, tuple) or len(value) != 4 or value[0] != "mixed":
        return False
    message, drawn, added = value[1:]
    if not are_row_words(code, message, drawn) or not are_so_many_words(code[0], len(lot), added):
        return False
    return any(packed_all(message)) and listener.is_mixed(ear, lot, message + drawn, added)


def are_row_words(code, message, drawn):
    """Whether these are words for the message rows, and for the drawn rows."""
    field, messages = code[0], code[3]
    if not are_so_many_words(field, messages, message):
        return False
    return are_so_many_words(field, len(code[2]) - messages, drawn)


def read_by(net, code, sink, reader, words):
    """The message words that the reader makes of heard words."""
    need_told(net, code, sink)
    if not are_readers(net, code, sink, reader):
        raise InvalidMatrix("no word for each message word and each link into the sink")
    field = code[0]
    if not are_so_many_words(field, len(into(net, sink)), words):
        raise InvalidWord("no word for each link into the sink")
    numbers = packed_all(words)
    return unpacked_all(field, [summed(field, packed_all(row), numbers) for row in reader])


def telling(net, code, sink, t, s):
    """Readers for all choices, or two sendings that are heard alike."""
    need_bounds(net, code, sink, t, s)
    silent, more = lot_sizes(net, t, s)
    readers = []
    found = Listener(net, code, sink).first_mixed(silent, more, readers)
    if found is None:
        return "tells", tuple(readers)
    return two_sendings(code[0], t, found)


def two_sendings(field, t, found):
    """("two", silent, one, other) for a choice that is mixed."""
    silent, lot, message, drawn, added = found
    pairs = [(link, word) for link, word in zip(lot, added)]
    one = [pair for pair in pairs[:t] if pair[1] != field.zero]
    other = [(link, unpacked(field, less(field, 0, packed(word)))) for link, word in pairs[t:] if word != field.zero]
    nought = (field.zero,) * len(message), (field.zero,) * len(drawn), tuple(other)
    return "two", silent, (message, drawn, tuple(one)), nought


def is_telling(net, code, sink, t, s, value):
    """Whether the value is readers for all choices, or two sendings that are heard alike."""
    need_bounds(net, code, sink, t, s)
    if is_told(value, "tells"):
        silent, more = lot_sizes(net, t, s)
        return are_all_readers(net, code, sink, silent, more, value[1])
    if not isinstance(value, tuple) or len(value) != 4 or value[0] != "two":
        return False
    silent, one, other = value[1:]
    if not is_lot(silent, len(net.links)) or len(silent) > s:
        return False
    if not is_sending(net, code, t, silent, one) or not is_sending(net, code, t, silent, other):
        return False
    return one[0] != other[0] and heard_by(net, code, sink, silent, one) == heard_by(net, code, sink, silent, other)


def are_all_readers(net, code, sink, many, more, value):
    """Whether the value is a tuple of readers for all choices with so many silent links and so many in the lot."""
    if not isinstance(value, tuple) or len(value) != number_of_choices(len(net.links), many, more):
        return False
    listener, place = Listener(net, code, sink), 0
    for silent in combinations(range(len(net.links)), many):
        ear = Ear(net, code, sink, silent)
        others = [link for link in range(len(net.links)) if link not in silent]
        for lot in combinations(others, more):
            reader = value[place]
            if not are_readers(net, code, sink, reader) or not listener.is_reader(ear, lot, reader):
                return False
            place = place + 1
    return True


def is_sending(net, code, t, silent, value):
    """Whether the value is words for all rows, and at most t wrong links, none of them silent."""
    if not isinstance(value, tuple) or len(value) != 3 or not are_row_words(code, value[0], value[1]):
        return False
    if not are_wrong(net, code[0], value[2]) or len(value[2]) > t:
        return False
    return not any([link in silent for link in links_of(value[2])])


def heard_by(net, code, sink, silent, sending):
    """The packed words on the links into the sink."""
    message, drawn, wrong = sending
    source = Listener(net, code, sink).source_of(packed_all(message + drawn))
    words = led_bent(net, code[0], code[1], source, wrong, silent)
    return [words[index] for index in into(net, sink)]


def does_tell(net, code, sink, t, s):
    """Whether the code tells the sink."""
    need_bounds(net, code, sink, t, s)
    silent, more = lot_sizes(net, t, s)
    return Listener(net, code, sink).first_mixed(silent, more, None) is None


def most_wrong(net, code, sink, s):
    """The greatest t up to 6 with which the code tells the sink; None if there is none."""
    found = None
    for t in range(MOST_BENT + 1):
        if not does_tell(net, code, sink, t, s):
            return found
        found = t
    return found
