"""Texts of nets, codes and bent links."""

from rowsthrough.base.fields import MOST_DEGREE, Field, is_base, need_field
from rowsthrough.base.reckoning import are_digits, is_from
from rowsthrough.bent.telling import MOST_ROWS, need_code
from rowsthrough.bent.wrong import need_bent
from rowsthrough.errors import InvalidText, ParseError
from rowsthrough.link.linkcodes import MOST_SIZE
from rowsthrough.net.nets import MOST_LINKS, MOST_POINTS, MOST_SINKS, Net, into, is_link, is_lot, need_net, need_sinks

MOST_TEXT = 100000
# No number in a text has more digits.
MOST_FIGURES = 60


def number_in(word):
    """The number that is written so, None if none is."""
    if not word.isascii() or not word.isdigit() or len(word) > MOST_FIGURES:
        return None
    if len(word) > 1 and word[0] == "0":
        return None
    return int(word)


def numbers_in(words):
    """The tuple of the numbers that are written so, with None for what is none."""
    return tuple([number_in(word) for word in words])


class NetLines:
    """The net and the sinks that lines tell, one by one."""

    def __init__(self):
        self.points = None
        self.links = []
        self.sinks = None

    def can_stand(self, words):
        """Whether a line of these words can stand behind those ahead; it is taken then."""
        numbers = numbers_in(words[1:])
        if self.sinks is not None:
            return False
        if self.points is None:
            return words[0] == "net" and self.takes_points(numbers)
        if words[0] == "link":
            return self.takes_link(numbers)
        return words[0] == "sinks" and self.takes_sinks(numbers)

    def takes_points(self, numbers):
        """Whether the numbers tell how many points there are."""
        if len(numbers) != 1 or not is_from(numbers[0], 2, MOST_POINTS):
            return False
        self.points = numbers[0]
        return True

    def takes_link(self, numbers):
        """Whether the numbers tell a link that is not less than the one ahead."""
        if not is_link(self.points, numbers) or len(self.links) == MOST_LINKS:
            return False
        if self.links and numbers < self.links[-1]:
            return False
        self.links.append(numbers)
        return True

    def takes_sinks(self, numbers):
        """Whether the numbers are sinks."""
        if not is_lot(numbers, self.points) or not 1 <= len(numbers) <= MOST_SINKS or 0 in numbers:
            return False
        self.sinks = numbers
        return True

    def is_done(self):
        """Whether no more lines must come."""
        return self.sinks is not None


class CodeLines:
    """The code for a net that lines tell, one by one."""

    def __init__(self, net):
        self.net = net
        self.field = None
        self.n = 0
        self.messages = 0
        self.mixing = []
        self.rows = []

    def can_stand(self, words):
        """Whether a line of these words can stand behind those ahead; it is taken then."""
        if self.field is None:
            return words[0] == "code" and self.takes_numbers(numbers_in(words[1:]))
        if len(self.mixing) < len(self.net.links):
            return words[0] == "mix" and self.takes_mixing(numbers_in(words[1:]))
        return words[0] == "row" and self.takes_row(words[1:])

    def takes_numbers(self, numbers):
        """Whether the numbers are q, m, n and r."""
        if len(numbers) != 4 or not is_base(numbers[0]) or not is_from(numbers[1], 1, MOST_DEGREE):
            return False
        if not is_from(numbers[2], 1, MOST_SIZE) or not is_from(numbers[3], 1, MOST_ROWS):
            return False
        self.field = Field(numbers[0], numbers[1])
        self.n = numbers[2]
        self.messages = numbers[3]
        return True

    def takes_mixing(self, numbers):
        """Whether the numbers are those of the next link."""
        tail = self.net.links[len(self.mixing)][0]
        many = self.n if tail == 0 else len(into(self.net, tail))
        if not are_digits(self.field.q, many, numbers):
            return False
        self.mixing.append(numbers)
        return True

    def takes_row(self, words):
        """Whether the words are a row."""
        row = tuple([field_word_in(self.field, word) for word in words])
        if len(row) != self.n or None in row or len(self.rows) == MOST_ROWS:
            return False
        self.rows.append(row)
        return True

    def is_done(self):
        """Whether no more lines must come."""
        return self.field is not None and len(self.rows) >= self.messages

    def made(self):
        """The code, if it is whole."""
        return self.field, tuple(self.mixing), tuple(self.rows), self.messages


class BentLines:
    """The wrong and the silent links that lines tell, one by one."""

    def __init__(self, net, field):
        self.net = net
        self.field = field
        self.wrong = []
        self.silent = []

    def can_stand(self, words):
        """Whether a line of these words can stand behind those ahead; it is taken then."""
        if words[0] == "wrong" and len(words) == 3:
            return self.takes_wrong(number_in(words[1]), field_word_in(self.field, words[2]))
        return words[0] == "silent" and len(words) == 2 and self.takes_silent(number_in(words[1]))

    def takes_wrong(self, link, word):
        """Whether these are a link behind all ahead, and a word."""
        ahead = self.wrong[-1][0] if self.wrong else -1
        if self.silent or word is None or not is_from(link, ahead + 1, len(self.net.links) - 1):
            return False
        self.wrong.append((link, word))
        return True

    def takes_silent(self, link):
        """Whether this is a link behind all silent ones ahead, and not wrong."""
        ahead = self.silent[-1] if self.silent else -1
        if not is_from(link, ahead + 1, len(self.net.links) - 1) or link in [pair[0] for pair in self.wrong]:
            return False
        self.silent.append(link)
        return True

    def is_done(self):
        """Whether no more lines must come."""
        return True


def word_text(word):
    """The word of a field as it is written."""
    return ".".join([str(digit) for digit in word])


def field_word_in(field, text):
    """The word of the field that is written so, None if none is."""
    word = numbers_in(text.split("."))
    return word if are_digits(field.q, field.m, word) else None


def line_of(kind, words):
    """A line of the kind, with the words, which may be numbers."""
    return " ".join([kind] + [str(word) for word in words]) + "\n"


def need_text(text):
    """Raise InvalidText unless this is a string of not too many printable signs and newlines."""
    if not isinstance(text, str) or len(text) > MOST_TEXT:
        raise InvalidText("no string of so many signs")
    if not all([" " <= sign <= "~" or sign == "\n" for sign in text]):
        raise InvalidText("not just printable signs and newlines")


def read_lines(text, lines):
    """Let all lines of the text stand behind one another: ParseError with the first one that cannot."""
    need_text(text)
    told = text.split("\n")
    for index, line in enumerate(told[:-1]):
        if not lines.can_stand(line.split(" ")):
            raise ParseError(index)
    if told[-1] or not lines.is_done():
        raise ParseError(len(told) - 1)


def text_of_net(net, sinks):
    """The text of the net and the sinks."""
    need_net(net)
    need_sinks(net, sinks)
    links = "".join([line_of("link", link) for link in net.links])
    return line_of("net", (net.points,)) + links + line_of("sinks", sinks)


def read_net(text):
    """The net and the sinks with the text."""
    lines = NetLines()
    read_lines(text, lines)
    return Net(lines.points, tuple(lines.links)), lines.sinks


def text_of_code(net, code):
    """The text of the code."""
    need_code(net, code)
    field, mixing, rows, messages = code
    begun = line_of("code", (field.q, field.m, len(rows[0]), messages))
    mixed = "".join([line_of("mix", numbers) for numbers in mixing])
    return begun + mixed + "".join([line_of("row", [word_text(word) for word in row]) for row in rows])


def read_code(net, text):
    """The code for the net with the text."""
    need_net(net)
    lines = CodeLines(net)
    read_lines(text, lines)
    return lines.made()


def text_of_bent(net, field, wrong, silent):
    """The text of the wrong and the silent links."""
    need_net(net)
    need_field(field)
    need_bent(net, field, wrong, silent)
    told = "".join([line_of("wrong", (link, word_text(word))) for link, word in wrong])
    return told + "".join([line_of("silent", (link,)) for link in silent])


def read_bent(net, field, text):
    """The wrong and the silent links with the text."""
    need_net(net)
    need_field(field)
    lines = BentLines(net, field)
    read_lines(text, lines)
    return tuple(lines.wrong), tuple(lines.silent)
