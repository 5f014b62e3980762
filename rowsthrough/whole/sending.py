"""Sending and reading."""

from itertools import combinations
from math import comb

from rowsthrough.base.fields import need_number
from rowsthrough.base.matrices import are_so_many_words, packed_rows
from rowsthrough.base.reckoning import WIDTH, brought, digits_of, echelon_between, is_from, less, packed, packed_all
from rowsthrough.base.reckoning import parted_at, row_products, solution_numbers, tidied, unpacked_all
from rowsthrough.bent.listening import Ear, Listener, alike
from rowsthrough.bent.telling import MOST_BENT, MOST_CHOICES, heard_by, is_sending, need_code, need_told
from rowsthrough.bent.wrong import led_bent, need_bent
from rowsthrough.errors import InvalidWord, Refused, TooMany
from rowsthrough.net.nets import into, need_lot, need_net, need_sink

MOST_DIGITS = 6
MOST_DIGIT = 12


class Hearing:
    """What fits words that one sink hears while some links are silent.

    A *heard row* is a packed row for a link into the sink, or for a sum of multiples of such: first how many
    times a word added on each link of the net is heard there, then the numbers of its vector, then the digits
    of the word that is heard.
    """

    def __init__(self, listener, silent, words):
        self.listener = listener
        self.field = listener.field
        self.ear = Ear(listener.net, listener.code, listener.sink, silent)
        self.silent = silent
        self.words = packed_all(words)
        # Where the vectors begin in heard rows, and where all ends.
        self.begin = self.ear.begin
        self.full = self.ear.end + self.field.m
        self.begun = [
            column | (packed(vector) << (WIDTH * self.begin)) | (word << (WIDTH * self.ear.end))
            for column, vector, word in zip(self.ear.columns, self.ear.vectors, self.words)
        ]
        # What fits hangs alone on the sums in which nothing is heard of what is added.
        self.known = {}

    def fits(self, many, most):
        """At most so many pairs of a lot and of packed words for all rows, of unlike messages, that fit.

        What is heard is what is sent with these words, and words added on the lot. All lots of so many links
        are looked at.
        """
        others = [link for link in range(len(self.listener.net.links)) if link not in self.silent]
        found = []
        # The heard rows that are left by no link of the lot at hand, by its first one, by its first two ..
        left, ahead = [self.begun], ()
        for lot in combinations(others, many):
            same = alike(ahead, lot)
            left = left[:same + 1]
            for link in lot[same:]:
                left.append(parted_at(self.field.q, self.full, left[-1], link)[1])
            ahead = lot
            for numbers in self.two_of(left[-1]):
                if not any([self.is_same_message(numbers, pair[1]) for pair in found]):
                    found.append((lot, numbers))
                if len(found) == most:
                    return found
        return found

    def is_same_message(self, one, other):
        """Whether the packed words for all rows have the same message words."""
        messages = self.listener.messages
        return one[:messages] == other[:messages]

    def two_of(self, rows):
        """Packed words for all rows with which what is heard along the heard rows is sent.

        None, one, or two of unlike messages, if there are such.
        """
        made = echelon_between(self.field.q, self.full, rows, self.begin, self.full)
        sums = tuple([row >> (WIDTH * self.begin) for row in made])
        if sums not in self.known:
            self.known[sums] = self.worked_out(sums)
        return self.known[sums]

    def worked_out(self, sums):
        """What `two_of` tells; the sums have the numbers of vectors, then the digits of words."""
        n, listener = self.ear.n, self.listener
        vectors, sides = [digits_of(n, one) for one in sums], [one >> (WIDTH * n) for one in sums]
        columns = brought(self.field, listener.rows, vectors)
        asked = [[column[place] for column in columns] for place in range(len(vectors))]
        numbers = solution_numbers(self.field, asked, sides, len(columns))
        if numbers is None:
            return ()
        kind, more = listener.answer(tuple(vectors))
        if kind == "reader":
            return (numbers,)
        return numbers, [tidied(self.field, one + other) for one, other in zip(numbers, more)]

    def fit_of(self, lot, numbers):
        """("fits", message, drawn, wrong) for a lot and packed words that fit."""
        sent_words = self.listener.heard(self.ear, numbers)
        missing = [less(self.field, one, other) for one, other in zip(self.words, sent_words)]
        added = unpacked_all(self.field, solution_numbers(self.field, self.ear.added_rows(lot), missing, len(lot)))
        wrong = tuple([(link, word) for link, word in zip(lot, added) if word != self.field.zero])
        words, messages = unpacked_all(self.field, numbers), self.listener.messages
        return "fits", words[:messages], words[messages:], wrong

    def size_of_lots(self, t):
        """How many links the lots have that are to be looked at."""
        return min(t, len(self.listener.net.links) - len(self.silent))


def need_sent(net, code, message, drawn):
    """Raise the first error unless these are a net, a code, and words for its message rows and its drawn rows."""
    need_code(net, code)
    field, _, rows, messages = code
    if not are_so_many_words(field, messages, message):
        raise InvalidWord("not as many words as message rows")
    if not are_so_many_words(field, len(rows) - messages, drawn):
        raise InvalidWord("not as many words as drawn rows")


def need_heard(net, code, sink, words):
    """Raise InvalidWord unless these are as many words as links into the sink."""
    if not are_so_many_words(code[0], len(into(net, sink)), words):
        raise InvalidWord("no word for each link into the sink")


def need_few_lots(net, t, silent):
    """Raise TooMany if there are more lots of t links that are not silent than can be looked at."""
    if comb(len(net.links) - len(silent), t) > MOST_CHOICES:
        raise TooMany(MOST_CHOICES)


def need_reading(net, code, sink, t):
    """Raise the first error unless these are a net, a code, a sink and a number of wrong links."""
    need_told(net, code, sink)
    need_number(t, 0, MOST_BENT)


def need_fitting(net, code, sink, t, silent, words):
    """Raise the first error unless these are silent links and heard words, for a code, a sink and t that are right."""
    need_lot(net, silent)
    need_heard(net, code, sink, words)
    need_few_lots(net, t, silent)


def packed_source(code, message, drawn):
    """The list of the packed source words."""
    return row_products(code[0], [packed_all(message + drawn)], packed_rows(code[2]))[0]


def are_link_words(net, value):
    """Whether the value is a tuple of as many tuples as links, each of one to six integers from 0 to 12."""
    if not isinstance(value, tuple) or len(value) != len(net.links):
        return False
    if not all([isinstance(word, tuple) and 1 <= len(word) <= MOST_DIGITS for word in value]):
        return False
    return all([is_from(digit, 0, MOST_DIGIT) for word in value for digit in word])


def source_words(net, code, message, drawn):
    """The source words."""
    need_sent(net, code, message, drawn)
    return unpacked_all(code[0], packed_source(code, message, drawn))


def sent(net, code, message, drawn, wrong, silent):
    """The words on all links."""
    need_sent(net, code, message, drawn)
    field = code[0]
    need_bent(net, field, wrong, silent)
    begun = packed_source(code, message, drawn)
    return unpacked_all(field, led_bent(net, field, code[1], begun, wrong, silent))


def heard(net, words, sink):
    """Those of the words that are on links into the sink."""
    need_net(net)
    if not are_link_words(net, words):
        raise InvalidWord("no word for each link")
    need_sink(net, sink)
    return tuple([words[link] for link in into(net, sink)])


def fitting(net, code, sink, t, silent, words):
    """A message, drawn words and wrong links for which the words are heard, or that there are none."""
    need_reading(net, code, sink, t)
    need_fitting(net, code, sink, t, silent, words)
    hearing = Hearing(Listener(net, code, sink), silent, words)
    found = hearing.fits(hearing.size_of_lots(t), 1)
    if not found:
        return ("none",)
    return hearing.fit_of(found[0][0], found[0][1])


def is_fitting(net, code, sink, t, silent, words, value):
    """Whether the value is such a message, drawn words and wrong links, or tells rightly that there are none."""
    need_reading(net, code, sink, t)
    need_fitting(net, code, sink, t, silent, words)
    if value == ("none",):
        return fitting(net, code, sink, t, silent, words) == ("none",)
    if not isinstance(value, tuple) or len(value) != 4 or value[0] != "fits":
        return False
    if not is_sending(net, code, t, silent, value[1:]):
        return False
    return heard_by(net, code, sink, silent, value[1:]) == packed_all(words)


def messages_read(listener, t, silent, words):
    """At most two unlike messages that fit."""
    hearing = Hearing(listener, silent, words)
    found = hearing.fits(hearing.size_of_lots(t), 2)
    return [unpacked_all(listener.field, numbers[:listener.messages]) for _, numbers in found]


def read(net, code, sink, t, silent, words):
    """The message that fits, None if none does."""
    need_reading(net, code, sink, t)
    need_fitting(net, code, sink, t, silent, words)
    found = messages_read(Listener(net, code, sink), t, silent, words)
    if len(found) > 1:
        raise Refused(("two",))
    return found[0] if found else None
