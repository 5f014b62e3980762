"""Helpers: what a sink hears, and what can be read out of it."""

from itertools import combinations

from rowsthrough.base.matrices import answer_numbers, packed_rows
from rowsthrough.base.reckoning import MASK, WIDTH, brought, digits_of, echelon_between, less, mixed
from rowsthrough.base.reckoning import packed_all, parted_at, row_products, solution_numbers, summed, tidied
from rowsthrough.base.reckoning import unit_rows, unpacked_all
from rowsthrough.bent.wrong import transfer_columns
from rowsthrough.link.linkcodes import vector_rows
from rowsthrough.net.nets import into


class Ear:
    """What a sink hears while some links are silent.

    A *joined row* is a packed row for a link into the sink, or for a sum of multiples of such: first how many
    times a word added on each link of the net is heard there, then the numbers of its vector, then how many
    times each link into the sink stands in the sum.
    """

    def __init__(self, net, code, sink, silent):
        field, mixing, rows = code[:3]
        many, n, links = len(net.links), len(rows[0]), into(net, sink)
        vectors = vector_rows(net, field.q, n, mixing, silent)
        columns = transfer_columns(net, field.q, n, mixing, silent)
        self.field = field
        self.n = n
        self.many = len(links)
        self.vectors = [digits_of(n, vectors[index]) for index in links]
        self.columns = [columns[index] for index in links]
        # Where the vectors begin in joined rows, where they end, and where all ends.
        self.begin = many
        self.end = many + n
        self.full = many + n + len(links)
        self.joined = [
            columns[index] | (vectors[index] << (WIDTH * self.begin)) | (unit << (WIDTH * self.end))
            for index, unit in zip(links, unit_rows(len(links)))
        ]

    def added_rows(self, lot):
        """For each link into the sink, how many times words added on the links of the lot are heard there."""
        return [[(column >> (WIDTH * link)) & MASK for link in lot] for column in self.columns]

    def without(self, rows, link):
        """Joined rows for all sums of multiples of these in which a word added on the link is not heard."""
        return parted_at(self.field.q, self.full, rows, link)[1]

    def left_by(self, lot):
        """Joined rows for all sums in which words added on the links of the lot are not heard."""
        rows = self.joined
        for link in lot:
            rows = self.without(rows, link)
        return rows

    def echelon_of(self, rows):
        """Joined rows of sums of multiples of these whose vectors are the echelon of all these vectors."""
        return echelon_between(self.field.q, self.full, rows, self.begin, self.end)

    def vectors_of(self, rows):
        """The tuple of the vectors of joined rows."""
        return tuple([digits_of(self.n, row >> (WIDTH * self.begin)) for row in rows])

    def words_of(self, rows, numbers):
        """A packed word for each link into the sink, for the sum of the joined rows, each times its packed word."""
        counts = [digits_of(self.many, row >> (WIDTH * self.end)) for row in rows]
        return [mixed(self.field, [count[place] for count in counts], numbers) for place in range(self.many)]


class Listener:
    """What one sink can read with a code, whatever is wrong or silent."""

    def __init__(self, net, code, sink):
        self.net = net
        self.code = code
        self.sink = sink
        self.field = code[0]
        self.rows = packed_rows(code[2])
        self.messages = code[3]
        # What can be read hangs on the vectors alone that the sink can make of those into it.
        self.known = {}

    def source_of(self, numbers):
        """The packed source words for packed words for all rows."""
        return row_products(self.field, [numbers], self.rows)[0]

    def answer(self, basis):
        """What can be read if the sink can make just the vectors of the basis, and sums of their multiples.

        ("reader", numbers) has for each message word a packed word for each of these vectors; ("mixed", numbers)
        a packed word for each row of the code, with which nothing is carried along these vectors.
        """
        if basis not in self.known:
            self.known[basis] = self.worked_out(basis)
        return self.known[basis]

    def worked_out(self, basis):
        """What `answer` tells."""
        rows, readers = brought(self.field, self.rows, basis), []
        for place in range(self.messages):
            side = [1 if further == place else 0 for further in range(len(rows))]
            kind, numbers = answer_numbers(self.field, rows, side, len(basis))
            if kind == "barred":
                return "mixed", numbers
            readers.append(numbers)
        return "reader", readers

    def reader_or_mixed(self, ear, lot):
        """("reader", reader) or ("mixed", message, drawn, added) for the silent links of the ear and the lot."""
        made = ear.echelon_of(ear.left_by(lot))
        kind, numbers = self.answer(ear.vectors_of(made))
        if kind == "mixed":
            return ("mixed",) + self.mixed_by(ear, lot, numbers)
        return "reader", self.reader_by(ear, made, numbers)

    def reader_by(self, ear, made, numbers):
        """The reader with these packed words for the vectors of the joined rows."""
        return tuple([unpacked_all(self.field, ear.words_of(made, words)) for words in numbers])

    def mixed_by(self, ear, lot, numbers):
        """The triple (message, drawn, added) with these packed words for the rows of the code."""
        opposite = [less(self.field, 0, word) for word in self.heard(ear, numbers)]
        added = solution_numbers(self.field, ear.added_rows(lot), opposite, len(lot))
        words = unpacked_all(self.field, numbers)
        return words[:self.messages], words[self.messages:], unpacked_all(self.field, added)

    def heard(self, ear, numbers):
        """The packed words that are heard for packed words for all rows, nothing being wrong."""
        return brought(self.field, [self.source_of(numbers)], ear.vectors)[0]

    def first_mixed(self, many, more, readers):
        """(silent, lot, message, drawn, added) for the first choice that is mixed; None if there is none.

        A choice has so many silent links, and so many more in its lot. The readers of all choices ahead are
        put into the list `readers`, unless that is None.
        """
        for silent in combinations(range(len(self.net.links)), many):
            found = self.mixed_while(silent, more, readers)
            if found is not None:
                return (silent,) + found
        return None

    def mixed_while(self, silent, more, readers):
        """(lot, message, drawn, added) for the first choice with these silent links that is mixed."""
        ear = Ear(self.net, self.code, self.sink, silent)
        others = [link for link in range(len(self.net.links)) if link not in silent]
        # The joined rows that are left by no link of the lot at hand, by its first one, by its first two ..
        left, ahead = [ear.joined], ()
        for lot in combinations(others, more):
            same = alike(ahead, lot)
            left = left[:same + 1]
            for link in lot[same:]:
                left.append(ear.without(left[-1], link))
            ahead = lot
            made = ear.echelon_of(left[-1])
            kind, numbers = self.answer(ear.vectors_of(made))
            if kind == "mixed":
                return (lot,) + self.mixed_by(ear, lot, numbers)
            if readers is not None:
                readers.append(self.reader_by(ear, made, numbers))
        return None

    def is_reader(self, ear, lot, reader):
        """Whether the tuple of words for each message word is a reader."""
        rows = ear.added_rows(lot)
        transfers, vectors = list(zip(*rows)), list(zip(*ear.vectors))
        for place, words in enumerate(packed_rows(reader)):
            if any(brought(self.field, [words], transfers)[0]):
                return False
            made = brought(self.field, [words], vectors)[0]
            sums = [summed(self.field, row, made) for row in self.rows]
            if sums != [1 if further == place else 0 for further in range(len(sums))]:
                return False
        return True

    def is_mixed(self, ear, lot, words, added):
        """Whether zero words alone are heard with these words for all rows, and those added on the lot."""
        more = brought(self.field, [packed_all(added)], ear.added_rows(lot))[0]
        heard = self.heard(ear, packed_all(words))
        return not any([tidied(self.field, one + other) for one, other in zip(heard, more)])


def alike(one, other):
    """How many members of the tuples are equal, from the first one on."""
    number = 0
    while number < min(len(one), len(other)) and one[number] == other[number]:
        number = number + 1
    return number
