"""Letters."""

from rowsthrough.base.fields import need_base, need_field, need_number
from rowsthrough.base.matrices import are_so_many_words
from rowsthrough.base.reckoning import number_power
from rowsthrough.bent.listening import Listener
from rowsthrough.bent.telling import MOST_ROWS, need_code
from rowsthrough.errors import InvalidOperation, InvalidText, InvalidWord, Refused
from rowsthrough.hide.hiding import other_drawn
from rowsthrough.whole.sending import messages_read, need_fitting, need_reading, sent

MOST_SIGNS = 400
SIGNS = "abcdefghijklmnopqrstuvwxyz0123456789 .,?!-\n"
MOST_PARTS = 3000


def need_letter(letter):
    """Raise InvalidText unless this is a letter."""
    if not isinstance(letter, str) or len(letter) > MOST_SIGNS:
        raise InvalidText("no string of so many signs")
    if not all([sign in SIGNS for sign in letter]):
        raise InvalidText("not just signs of letters")


def need_parted(field, r):
    """Raise the first error unless these are a field and a number of message words."""
    need_field(field)
    need_number(r, 1, MOST_ROWS)


def need_members(value, many):
    """Raise InvalidOperation unless this is a tuple of so many members."""
    if not isinstance(value, tuple) or len(value) != many:
        raise InvalidOperation("no tuple with a member for each part")


def need_few_members(value):
    """Raise InvalidOperation unless this is a tuple of not too many members."""
    if not isinstance(value, tuple) or len(value) > MOST_PARTS:
        raise InvalidOperation("no tuple of at most so many members")


def need_some_words(field, r, parts):
    """Raise InvalidWord unless this is a tuple of not too many tuples of r words."""
    if not isinstance(parts, tuple) or len(parts) > MOST_PARTS:
        raise InvalidWord("no tuple of at most so many parts")
    if not all([are_so_many_words(field, r, part) for part in parts]):
        raise InvalidWord("not as many words as a part has")


def digits_of_sign(q, size, number):
    """So many base numbers for the number, the greatest place first."""
    digits = []
    for _ in range(size):
        digits.append(number % q)
        number = number // q
    return digits[::-1]


def parts_in(field, r, letter):
    """The parts of the letter."""
    q, m, size = field.q, field.m, sign_size(field.q)
    digits = []
    for sign in letter:
        digits.extend(digits_of_sign(q, size, SIGNS.index(sign) + 1))
    digits.extend([0] * size)
    digits.extend([0] * (-len(digits) % (r * m)))
    words = [tuple(digits[start:start + m]) for start in range(0, len(digits), m)]
    return tuple([tuple(words[start:start + r]) for start in range(0, len(words), r)])


def letter_in(field, r, parts):
    """("letter", letter) with the letter that has these parts, or ("broken", reason)."""
    q, size = field.q, sign_size(field.q)
    digits = [digit for part in parts for word in part for digit in word]
    signs, place = [], 0
    while place + size <= len(digits):
        number = 0
        for further in digits[place:place + size]:
            number = number * q + further
        place = place + size
        if number == 0:
            # Behind the end no whole part may follow.
            if any(digits[place:]) or len(digits) - place >= r * field.m:
                return "broken", ("rest",)
            return "letter", "".join(signs)
        if number > len(SIGNS):
            return "broken", ("sign", len(signs))
        if len(signs) == MOST_SIGNS:
            return "broken", ("long",)
        signs.append(SIGNS[number - 1])
    return "broken", ("end",)


def sign_size(q):
    """How many base numbers tell a sign."""
    need_base(q)
    size = 1
    while number_power(q, size) <= len(SIGNS):
        size = size + 1
    return size


def parts_of(field, r, letter):
    """The parts of the letter."""
    need_parted(field, r)
    need_letter(letter)
    return parts_in(field, r, letter)


def letter_of(field, r, parts):
    """The letter that has the parts."""
    need_parted(field, r)
    need_some_words(field, r, parts)
    kind, found = letter_in(field, r, parts)
    if kind == "broken":
        raise Refused(found)
    return found


def letter_sent(net, code, letter, drawn, wrong, silent):
    """For each part the words on all links."""
    need_code(net, code)
    need_letter(letter)
    parts = parts_in(code[0], code[3], letter)
    for value in (drawn, wrong, silent):
        need_members(value, len(parts))
    return tuple([
        sent(net, code, part, drawn[place], wrong[place], silent[place]) for place, part in enumerate(parts)
    ])


def letter_read(net, code, sink, t, silent, words):
    """The letter that fits, or the first part that no message fits, or several, or why they make no letter."""
    need_reading(net, code, sink, t)
    need_few_members(silent)
    need_members(words, len(silent))
    listener, parts = Listener(net, code, sink), []
    for place, word_row in enumerate(words):
        need_fitting(net, code, sink, t, silent[place], word_row)
        found = messages_read(listener, t, silent[place], word_row)
        if len(found) != 1:
            return ("two" if found else "beyond"), place
        parts.append(found[0])
    kind, answer = letter_in(code[0], code[3], parts)
    return ("read" if kind == "letter" else kind), answer


def other_letter(net, code, lots, letter, drawn, other):
    """Drawn words with which the other letter brings the same on the lot of each part."""
    need_code(net, code)
    need_few_members(lots)
    need_letter(letter)
    parts = parts_in(code[0], code[3], letter)
    need_members(drawn, len(parts))
    need_members(lots, len(parts))
    need_letter(other)
    others = parts_in(code[0], code[3], other)
    if len(others) != len(parts):
        raise InvalidOperation("the letters have unlike numbers of parts")
    return tuple([
        other_drawn(net, code, lots[place], part, drawn[place], others[place]) for place, part in enumerate(parts)
    ])
