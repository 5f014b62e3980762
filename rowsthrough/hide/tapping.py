"""Helpers: what is heard on links, and what it tells."""

from itertools import combinations

from rowsthrough.base.matrices import answer_numbers, are_so_many_words, packed_rows
from rowsthrough.base.reckoning import WIDTH, brought, digits_of, echelon_between, less, mixed, packed_all, summed
from rowsthrough.base.reckoning import unit_rows, unpacked_all
from rowsthrough.link.linkcodes import vector_rows


class Tap:
    """What can be heard on the links of a net, nothing being wrong or silent."""

    def __init__(self, net, code):
        field, mixing, rows, messages = code
        numbers = packed_rows(rows)
        self.field = field
        self.n = len(rows[0])
        self.message_rows = numbers[:messages]
        self.drawn_rows = numbers[messages:]
        self.vectors = vector_rows(net, field.q, self.n, mixing, ())
        # What is hidden hangs on the vectors alone that can be made of those of a lot.
        self.spans = {}
        self.known = {}
        self.judged = {}

    def vectors_of(self, lot):
        """The vectors of the links of the lot."""
        return [digits_of(self.n, self.vectors[link]) for link in lot]

    def span(self, lot):
        """The tuple of the packed rows of the echelon of the vectors of the lot."""
        found = ()
        for link in lot:
            place = found, link
            if place not in self.spans:
                rows = [*found, self.vectors[link]]
                self.spans[place] = tuple(echelon_between(self.field.q, self.n, rows, 0, self.n))
            found = self.spans[place]
        return found

    def answer(self, lot):
        """("hides", hiders), or ("leak", numbers) with a packed word for each row of the span."""
        span = self.span(lot)
        if span not in self.known:
            self.known[span] = self.worked_out([digits_of(self.n, row) for row in span])
        return self.known[span]

    def worked_out(self, basis):
        """What `answer` tells for these vectors."""
        drawn, hiders = brought(self.field, self.drawn_rows, basis), []
        columns = [[row[place] for row in drawn] for place in range(len(basis))]
        for side in brought(self.field, self.message_rows, basis):
            kind, numbers = answer_numbers(self.field, columns, side, len(drawn))
            if kind == "barred":
                return "leak", numbers
            hiders.append(unpacked_all(self.field, numbers))
        return "hides", tuple(hiders)

    def leak_of(self, lot, numbers):
        """A word for each link of the lot, for the packed words for the rows of its span."""
        # Behind each vector stands how many times each link is in a sum.
        joined = [
            self.vectors[link] | (unit << (WIDTH * self.n)) for link, unit in zip(lot, unit_rows(len(lot)))
        ]
        made = echelon_between(self.field.q, self.n + len(lot), joined, 0, self.n)
        counts = [digits_of(len(lot), row >> (WIDTH * self.n)) for row in made]
        words = [mixed(self.field, [count[place] for count in counts], numbers) for place in range(len(lot))]
        return unpacked_all(self.field, words)

    def hiders_or_leak(self, lot):
        """("hides", hiders) or ("leak", combination)."""
        kind, found = self.answer(lot)
        return kind, found if kind == "hides" else self.leak_of(lot, found)

    def first_leak(self, many, found):
        """The first lot of so many links that leaks; None if there is none.

        The hiders of all lots ahead of it are put into the list `found`.
        """
        for lot in combinations(range(len(self.vectors)), many):
            kind, hiders = self.answer(lot)
            if kind == "leak":
                return lot
            found.append(hiders)
        return None

    def are_hiders(self, lot, value):
        """Whether the value is hiders of the lot."""
        if not isinstance(value, tuple) or len(value) != len(self.message_rows):
            return False
        if not all([are_so_many_words(self.field, len(self.drawn_rows), row) for row in value]):
            return False
        if value not in self.judged:
            self.judged[value] = self.hidden_links(packed_rows(value))
        return all([self.judged[value][link] for link in lot])

    def hidden_links(self, hiders):
        """For each link whether the packed rows are hiders of it: of a lot they are if they are of each link."""
        field, missing = self.field, []
        columns = [[row[place] for row in self.drawn_rows] for place in range(self.n)]
        for hider, message in zip(hiders, self.message_rows):
            made = [summed(field, hider, column) for column in columns]
            missing.append([less(field, one, other) for one, other in zip(made, message)])
        vectors = [digits_of(self.n, vector) for vector in self.vectors]
        return [not any([mixed(field, vector, row) for row in missing]) for vector in vectors]

    def is_leak(self, lot, value):
        """Whether the value is a leak of the lot."""
        if not are_so_many_words(self.field, len(lot), value):
            return False
        vectors, numbers = self.vectors_of(lot), packed_all(value)
        # What the combination makes of the source words: a packed word for each of them.
        made = [mixed(self.field, [vector[place] for vector in vectors], numbers) for place in range(self.n)]
        if any([summed(self.field, row, made) for row in self.drawn_rows]):
            return False
        return any([summed(self.field, row, made) for row in self.message_rows])
