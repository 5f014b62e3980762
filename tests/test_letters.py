"""Stage 17: letters."""

import itertools
import random
import unittest

from rowsthrough import errors
from rowsthrough.base import fields
from rowsthrough.base.fields import Field
from rowsthrough.hide.hiding import does_hide
from rowsthrough.net import nets
from rowsthrough.net.nets import Net
from rowsthrough.whole import letters
from rowsthrough.whole.letters import (
    MOST_SIGNS, SIGNS, letter_of, letter_read, letter_sent, other_letter, parts_of, sign_size,
)
from rowsthrough.whole.plans import plan_or_cut
from rowsthrough.whole.sending import heard, sent
from tests.helper import (
    check_parameters, junk, own_carried, own_of, own_source, random_words,
    run_examples, spoiled, told, without, wrong_bases, wrong_codes, wrong_fields, wrong_nets, wrong_numbers,
    wrong_points,
)

EXAMPLES = r"""
>>> [sign_size(2), sign_size(13), parts_of(Field(2, 4), 2, "a"), letter_of(Field(2, 4), 2, parts_of(Field(2, 4), 2, "to\nall"))]
[6, 2, (((0, 0, 0, 0), (0, 1, 0, 0)), ((0, 0, 0, 0), (0, 0, 0, 0))), 'to\nall']
>>> letter_of(Field(13, 2), 1, (((0, 5),), ((9, 9),)))
raises Refused(('sign', 1))
>>> TWO, SHARED = Net(2, ((0, 1), (0, 1))), (Field(13, 2), ((1, 0), (0, 1)), (((1, 0), (0, 0)), ((1, 0), (1, 0))), 1)
>>> SENT = letter_sent(TWO, SHARED, "a", (((3, 4),), ((0, 7),)), ((), ()), ((), ()))
>>> [SENT, other_letter(TWO, SHARED, ((0,), (1,)), "a", (((3, 4),), ((0, 7),)), "b")]
[(((3, 5), (3, 4)), ((0, 7), (0, 7))), (((3, 3),), ((0, 7),))]
"""

BASES = (2, 3, 5, 7, 11, 13)
SIZES = {2: 6, 3: 4, 5: 3, 7: 2, 11: 2, 13: 2}
TWO, SHARED = Net(2, ((0, 1), (0, 1))), (Field(13, 2), ((1, 0), (0, 1)), (((1, 0), (0, 0)), ((1, 0), (1, 0))), 1)
THREE, SAID = Net(2, ((0, 1), (0, 1), (0, 1))), (Field(7, 2), ((1,), (1,), (1,)), (((1, 0),),), 1)
FULL = Net(2, ((0, 1),) * 20)
FLY = Net(7, ((0, 1), (0, 2), (1, 3), (1, 5), (2, 3), (2, 6), (3, 4), (4, 5), (4, 6)))
WIDE = Net(3, ((0, 1),) * 5 + ((0, 2),) + ((1, 2),) * 4)


def own_digits(q, letter):
    """The digits of the signs, and of the end, by repeated division."""
    digits = []
    for number in [*[SIGNS.index(sign) + 1 for sign in letter], 0]:
        places = []
        while number:
            number, digit = divmod(number, q)
            places.insert(0, digit)
        digits += [0] * (SIZES[q] - len(places)) + places
    return digits


def own_parts(q, m, r, digits):
    """Digits as parts, the last one filled up with zeros."""
    while len(digits) % (r * m):
        digits = [*digits, 0]
    words = [tuple(digits[start:start + m]) for start in range(0, len(digits), m)]
    return tuple(tuple(words[start:start + r]) for start in range(0, len(words), r))


def own_reason(q, m, r, parts):
    """The first reason why the parts are no letter's, None if there is none."""
    digits, size = [digit for part in parts for word in part for digit in word], SIZES[q]
    for sign in itertools.count():
        group = digits[sign * size:sign * size + size]
        if len(group) < size:
            return ("end",)
        value = sum(digit * q ** (size - 1 - place) for place, digit in enumerate(group))
        if value == 0:
            behind = digits[sign * size + size:]
            many = -(-size * (sign + 1) // (r * m))
            return ("rest",) if any(behind) or len(parts) != many else None
        if value > 43:
            return ("sign", sign)
        if sign == 400:
            return ("long",)


def drawn_letter(chance, most=30):
    return "".join(chance.choice(SIGNS) for _ in range(chance.randrange(most + 1)))


def wrong_letters():
    return [
        *without(junk(), str), 0, 1, (), "A", "a\tb", "a_b", "a" * 401, "\r", "{}", "one;", "a" * 400 + "!", ("a",),
        ["a", "b"], "%", "a\x00",
        "~" * 400_000, '"',
    ]


class Examples(unittest.TestCase):
    def test_examples(self):
        run_examples(self, EXAMPLES, {**vars(nets), **vars(fields), **vars(letters)})

    def test_constants(self):
        self.assertEqual([MOST_SIGNS, SIGNS], [400, "abcdefghijklmnopqrstuvwxyz0123456789 .,?!-\n"])
        self.assertEqual(len(set(SIGNS)), 43)


class SignSize(unittest.TestCase):
    def test_all_bases(self):
        self.assertEqual([sign_size(q) for q in BASES], [6, 4, 3, 2, 2, 2])
        for q in BASES:
            self.assertTrue(q ** (sign_size(q) - 1) < 44 <= q ** sign_size(q))

    def test_wrong_arguments(self):
        check_parameters(self, sign_size, [2], [(errors.InvalidNumber, wrong_bases())])


class Parts(unittest.TestCase):
    def letters(self, seed):
        chance = random.Random(seed)
        yield from ("", "a", "\n", SIGNS, "a" * 400, "\n" * 400, "".join(chance.choice(SIGNS) for _ in range(400)))
        for _ in range(12):
            yield drawn_letter(chance)

    def test_own_digits_and_back(self):
        counts = set()
        for letter in self.letters(231):
            for q, m in ((2, 1), (2, 4), (3, 5), (5, 2), (7, 3), (11, 6), (13, 1)):
                for r in range(1, 13):
                    field = Field(q, m)
                    found = parts_of(field, r, letter)
                    self.assertEqual(found, own_parts(q, m, r, own_digits(q, letter)))
                    self.assertEqual(len(found), -(-SIZES[q] * (len(letter) + 1) // (r * m)))
                    self.assertEqual(letter_of(field, r, found), letter)
                    counts.add(len(found))
        self.assertIn(1, counts)
        self.assertEqual(max(counts), 2406)

    def test_each_sign(self):
        for q in BASES:
            for number, sign in enumerate(SIGNS, 1):
                digits = [digit for word in parts_of(Field(q, 1), 1, sign) for part in word for digit in part]
                size = SIZES[q]
                self.assertEqual(sum(digit * q ** (size - 1 - place) for place, digit in enumerate(digits[:size])), number)
                self.assertEqual(digits[size:], [0] * size)

    def test_wrong_arguments(self):
        field = Field(3, 2)
        begun = [(errors.InvalidField, wrong_fields()), (errors.InvalidNumber, [*wrong_numbers(12), 0, 13])]
        check_parameters(self, parts_of, [field, 2, "go on"], [*begun, (errors.InvalidText, wrong_letters())])
        parts = parts_of(field, 2, "go on")
        wrong = [
            *junk(), 0, 1, *spoiled(parts[:2]), (parts,), parts[0], ((),), (((0, 0),),), (((0, 0),) * 3,),
            (((0,), (0,)),), (((0, 3), (0, 0)),),
            (((0, 0), (0, 0)),) * 3001, "go on", (*parts, ((0, 0),)), ((True, 0), (0, 0)),
        ]
        check_parameters(self, letter_of, [field, 2, parts], [*begun, (errors.InvalidWord, wrong)])
        # 3,000 parts are let: they hold more digits than the longest letter.
        told(self, letter_of, [field, 2, (((0, 0), (0, 0)),) * 3000], errors.Refused)
        told(self, letter_of, [Field(2, 1), 1, (((0,),),) * 3000], errors.Refused)
        told(self, letter_of, [Field(2, 1), 1, (((0,),),) * 3001], errors.InvalidWord)


class Back(unittest.TestCase):
    def check(self, q, m, r, parts):
        reason = own_reason(q, m, r, parts)
        if reason is None:
            letter = letter_of(Field(q, m), r, parts)
            self.assertEqual(parts_of(Field(q, m), r, letter), parts)
        else:
            with self.assertRaises(errors.Refused) as caught:
                letter_of(Field(q, m), r, parts)
            self.assertEqual(caught.exception.reason, reason)
        return "letter" if reason is None else reason

    def test_letters_with_digits_bent(self):
        seen, chance = set(), random.Random(232)
        for _ in range(600):
            q, m, r = chance.choice(BASES), chance.randrange(1, 7), chance.randrange(1, 7)
            digits = own_digits(q, drawn_letter(chance, 6))
            parts = own_parts(q, m, r, digits)
            flat = [digit for part in parts for word in part for digit in word]
            for _ in range(4):
                bent = list(flat)
                for _ in range(chance.randrange(1, 4)):
                    bent[chance.randrange(len(bent))] = chance.randrange(q)
                bent = bent[:chance.choice((len(bent), len(bent) - r * m, len(bent)))] + [0] * (r * m * chance.choice((0, 0, 1)))
                seen.add(self.check(q, m, r, own_parts(q, m, r, bent)))
        self.assertTrue({"letter", ("end",), ("rest",), ("sign", 0), ("sign", 1), ("sign", 3)} <= seen)

    def test_each_reason(self):
        for q in BASES:
            size = SIZES[q]
            nought, one, last = [0] * size, [0] * (size - 1) + [1], own_digits(q, "\n")[:size]
            beyond = own_digits(q, "\n")[:size]
            beyond[-1] += 1
            if beyond[-1] == q:
                beyond = [q - 1] * size
            top = [q - 1] * size
            for digits, reason in (
                (top, ("sign", 0)), ([*one, *top, *nought], ("sign", 1)), ([*last, *beyond, 1], ("sign", 1)),
                (one, ("end",)), (last * 3, ("end",)),
                ([*one, *nought[1:]], ("end",)), ([*one, *nought, 1], ("rest",)), ([*nought, 0], ("rest",)),
                ([*nought, *one], ("rest",)),
                (one * 401, ("long",)), ([*one * 401, *nought], ("long",)), ([*one * 400, *top], ("sign", 400)),
                (one * 400, ("end",)), ([], ("end",)),
                ([*one * 400, *nought], "letter"), ([*last, *nought], "letter"), (nought, "letter"),
                ([*one * 400, 0], ("end",)),
                ([*one * 399, *top, *one, *nought], ("sign", 399)), (one * 402, ("long",)),
            ):
                self.assertEqual(self.check(q, 1, 1, tuple(((digit,),) for digit in digits)), reason)

    def test_the_first_reason(self):
        # A sign that is none ahead of a digit behind the end, and of what is too long; an end ahead of a sign that is none.
        for digits, reason in (
            ([9, 9, 0, 0, 1, 0], ("sign", 0)), ([0, 0, 9, 9], ("rest",)),
            ([0, 1] * 400 + [9, 9, 0, 1], ("sign", 400)),
            ([0, 1] * 401 + [9, 9], ("long",)), ([0, 1] * 5 + [0], ("end",)), ([0, 1, 9, 9, 9], ("sign", 1)),
        ):
            self.assertEqual(self.check(13, 1, 1, tuple(((digit,),) for digit in digits)), reason)

    def test_parts_too_many(self):
        for q, m, r in ((2, 1, 1), (2, 4, 2), (5, 6, 3), (13, 2, 1), (13, 6, 12)):
            for letter in ("", "a", "no one"):
                parts, zero = parts_of(Field(q, m), r, letter), ((0,) * m,) * r
                self.assertEqual(self.check(q, m, r, parts), "letter")
                self.assertEqual(self.check(q, m, r, (*parts, zero)), ("rest",))
                self.assertEqual(self.check(q, m, r, (*parts, *parts)), ("rest",))
                self.assertEqual(self.check(q, m, r, ()), ("end",))
                if len(parts) > 1:
                    self.assertNotEqual(self.check(q, m, r, parts[:-1]), "letter")


class PartByPart(unittest.TestCase):
    PLANS = (
        (THREE, (1,), (1, 1, 0, 0), 2), (THREE, (1,), (1, 0, 1, 1), 5), (FLY, (5, 6), (1, 0, 1, 0), 3),
        (FLY, (5, 6), (1, 0, 0, 1), 2),
        (WIDE, (1, 2), (1, 1, 1, 1), 2), (FULL, (1,), (2, 1, 0, 2), 3), (FLY, (5, 6), (2, 0, 0, 0), 13),
        (WIDE, (2,), (3, 0, 1, 1), 2), (THREE, (1,), (1, 0, 0, 2), 2),
    )

    def bent(self, chance, own, net, t, s, many):
        """Wrong and silent links of each part."""
        pairs, silent = [], []
        for _ in range(many):
            links = chance.sample(range(len(net.links)), chance.randrange(t + 1) + s)
            silent.append(tuple(sorted(links[:chance.randrange(s + 1)])))
            pairs.append(tuple((link, random_words(chance, own.q, own.m, 1)[0]) for link in sorted(links[s:])))
        return tuple(pairs), tuple(silent)

    def test_each_sink_reads_just_the_letter(self):
        chance, seen = random.Random(233), set()
        for net, sinks, numbers, q in self.PLANS:
            kind, code = plan_or_cut(net, sinks, numbers, q)
            self.assertEqual(kind, "plan")
            own, (r, t, s, k) = own_of(code), numbers
            for letter in ("", drawn_letter(chance), drawn_letter(chance)):
                parts = parts_of(code[0], r, letter)
                drawn = tuple(random_words(chance, q, own.m, k) for _ in parts)
                pairs, silent = self.bent(chance, own, net, t, s, len(parts))
                found = letter_sent(net, code, letter, drawn, pairs, silent)
                wanted = tuple(
                    own_carried(net, q, own.m, code[1], own_source(own, code, part, drawn[place]), pairs[place], silent[place])
                    for place, part in enumerate(parts)
                )
                self.assertEqual(found, wanted)
                for sink in sinks:
                    words = tuple(heard(net, row, sink) for row in found)
                    self.assertEqual(letter_read(net, code, sink, t, silent, words), ("read", letter))
                seen |= {(len(a), len(b)) for a, b in zip(pairs, silent)}
        self.assertTrue({(0, 0), (1, 0), (0, 1), (1, 1)} <= seen)

    def test_part_that_cannot_be_read(self):
        letter = "is it so?"
        parts = parts_of(SAID[0], 1, letter)
        nothing = ((),) * len(parts)
        rows = letter_sent(THREE, SAID, letter, nothing, nothing, nothing)
        self.assertEqual(letter_read(THREE, SAID, 1, 1, nothing, rows), ("read", letter))
        apart = ((1, 0), (2, 0), (3, 0))
        for place in range(len(parts)):
            bent = (*rows[:place], apart, *rows[place + 1:])
            self.assertEqual(letter_read(THREE, SAID, 1, 1, nothing, bent), ("beyond", place))
            self.assertEqual(letter_read(THREE, SAID, 1, 2, nothing, bent), ("two", place))
            lost = (*nothing[:place], (0, 1, 2), *nothing[place + 1:])
            zero = (*rows[:place], ((0, 0),) * 3, *rows[place + 1:])
            self.assertEqual(letter_read(THREE, SAID, 1, 0, lost, zero), ("two", place))
            self.assertEqual(letter_read(THREE, SAID, 1, 0, lost, bent), ("beyond", place))
        # The first one of several is told.
        bent = (*rows[:2], apart, rows[3], apart, *rows[5:])
        self.assertEqual(letter_read(THREE, SAID, 1, 0, nothing, bent), ("beyond", 2))
        lost, zero = (*nothing[:3], (0, 1, 2), *nothing[4:]), ((0, 0),) * 3
        self.assertEqual(letter_read(THREE, SAID, 1, 0, lost, (*rows[:3], zero, apart, *rows[5:])), ("two", 3))
        self.assertEqual(letter_read(THREE, SAID, 1, 0, lost, (rows[0], apart, rows[2], zero, *rows[4:])), ("beyond", 1))

    def test_parts_that_are_no_letters(self):
        field = SAID[0]
        for digits in ([0] * 4 + [1], [6, 6] + [0] * 4, [0, 1] * 3, [0, 1] * 401 + [0, 0], [], [0, 1, 6, 3], [0, 1, 0, 0]):
            parts = own_parts(7, 2, 1, digits)
            nothing, reason = ((),) * len(parts), own_reason(7, 2, 1, parts)
            rows = tuple((part[0],) * 3 for part in parts)
            found = letter_read(THREE, SAID, 1, 1, nothing, rows)
            self.assertEqual(found, ("broken", reason) if reason else ("read", letter_of(field, 1, parts)))
        self.assertEqual(letter_read(THREE, SAID, 1, 0, (), ()), ("broken", ("end",)))

    def test_errors_of_parts_one_by_one(self):
        nothing = ((),) * 2
        rows = letter_sent(THREE, SAID, "a", nothing, nothing, nothing)
        self.assertEqual(len(rows), 2)
        apart, far = ((1, 0), (2, 0), (3, 0)), ((1, 0),) * 2
        # What is wrong with a part is told behind what comes of those ahead, and ahead of those behind.
        self.assertEqual(letter_read(THREE, SAID, 1, 0, ((), (3,)), (apart, far)), ("beyond", 0))
        told(self, letter_read, [THREE, SAID, 1, 0, ((), (3,)), (rows[0], far)], errors.InvalidLinks)
        told(self, letter_read, [THREE, SAID, 1, 0, ((), ()), (rows[0], far)], errors.InvalidWord)
        told(self, letter_read, [THREE, SAID, 1, 0, ((), (3,)), (far, rows[1])], errors.InvalidWord)
        told(self, letter_read, [THREE, SAID, 1, 0, ((3,), ()), (far, far)], errors.InvalidLinks)
        wrong, silent = ((0, (1, 1)),), (0,)
        told(self, letter_sent, [THREE, SAID, "a", nothing, (wrong, 0), (silent, 0)], errors.InvalidOperation)
        told(self, letter_sent, [THREE, SAID, "a", nothing, (wrong, 0), ((), 0)], errors.InvalidLinks)
        told(self, letter_sent, [THREE, SAID, "a", ((), 0), ((), 0), ((), 0)], errors.InvalidWord)
        told(self, letter_sent, [THREE, SAID, "a", ((), 0), ((), ()), (silent, ())], errors.InvalidWord)
        told(self, letter_sent, [THREE, SAID, "a", ((), 0), ((7,), ()), ((), ())], errors.InvalidLinks)

    def test_too_many_lots_in_a_part(self):
        code = (Field(13, 1), ((1,),) * 20, (((1,),),), 1)
        nothing = ((),) * 4
        rows = letter_sent(FULL, code, "a", nothing, nothing, nothing)
        told(self, letter_read, [FULL, code, 1, 6, nothing, rows], errors.TooMany)
        told(self, letter_read, [FULL, code, 1, 6, ((3,), *nothing[1:]), rows], errors.TooMany)
        # A part with no single message ends the reading ahead of it.
        mute = tuple(range(20))
        self.assertEqual(rows[:2], ((((0,),) * 20), (((1,),) * 20)))
        self.assertEqual(letter_read(FULL, code, 1, 6, (mute, *nothing[1:]), rows), ("two", 0))
        self.assertEqual(letter_read(FULL, code, 1, 6, (mute, *nothing[1:]), (rows[1], *rows[1:])), ("beyond", 0))

    def test_wrong_arguments(self):
        rows = letter_sent(TWO, SHARED, "a", (((3, 4),), ((0, 7),)), ((), ()), ((), ()))
        nothing = ((), ())
        members = [*junk(), 0, 1, (), ((),), ((), (), ()), [(), ()], {0: (), 1: ()}, "ab", 2]
        begun = [
            (errors.InvalidNet, wrong_nets()), (errors.InvalidCode, wrong_codes(TWO, SHARED)),
            (errors.InvalidText, wrong_letters()),
        ]
        # A tuple of as many members as parts is looked at part by part.
        apart = [value for value in members if not (isinstance(value, tuple) and len(value) == 2)]
        check_parameters(self, letter_sent, [TWO, SHARED, "a", (((3, 4),), ((0, 7),)), nothing, nothing], [
            *begun, *[(errors.InvalidOperation, apart)] * 3,
        ])
        silents = [*without(junk(), tuple), 0, 1, [(), ()], {0: ()}, "ab", ((),) * 3001]
        check_parameters(self, letter_read, [TWO, SHARED, 1, 0, nothing, rows], [
            *begun[:2], (errors.InvalidNumber, wrong_points(TWO)), (errors.InvalidNumber, wrong_numbers(6)),
            (errors.InvalidOperation, silents), (errors.InvalidOperation, apart),
        ])
        told(self, letter_read, [TWO, SHARED, 1, 0, ((), (), ()), rows], errors.InvalidOperation)
        told(self, letter_read, [TWO, SHARED, 1, 0, ((),), rows], errors.InvalidOperation)
        self.assertEqual(letter_read(TWO, SHARED, 1, 0, ((),) * 3000, (rows[1],) * 3000), ("broken", ("rest",)))


class OtherLetters(unittest.TestCase):
    def test_the_same_on_each_lot(self):
        chance, seen = random.Random(234), set()
        for (net, sinks, numbers, q), _ in itertools.product(PartByPart.PLANS, range(3)):
            code = plan_or_cut(net, sinks, numbers, q)[1]
            own, r, k = own_of(code), numbers[0], numbers[3]
            letter = drawn_letter(chance, 8)
            other = "".join(chance.choice(SIGNS) for _ in letter)
            many = len(parts_of(code[0], r, letter))
            drawn = tuple(random_words(chance, q, own.m, k) for _ in range(many))
            lots = tuple(tuple(sorted(chance.sample(range(len(net.links)), chance.choice((k, k // 2))))) for _ in range(many))
            found = other_letter(net, code, lots, letter, drawn, other)
            nothing = ((),) * many
            one = letter_sent(net, code, letter, drawn, nothing, nothing)
            two = letter_sent(net, code, other, found, nothing, nothing)
            for place, lot in enumerate(lots):
                for link in lot:
                    self.assertEqual(one[place][link], two[place][link])
                seen.add(len(lot))
        self.assertEqual(seen, {0, 1, 2})

    def test_letters_of_unlike_lengths_with_as_many_parts(self):
        code = plan_or_cut(THREE, (1,), (1, 0, 0, 2), 13)[1]
        own, chance = own_of(code), random.Random(235)
        self.assertEqual((own.m, code[3]), (3, 1))
        # Two digits for each sign and for the end: four signs and five need four parts.
        letter, other = "four", "seven"
        self.assertEqual([len(parts_of(code[0], 1, one)) for one in (letter, other)], [4, 4])
        drawn = tuple(random_words(chance, 13, 3, 2) for _ in range(4))
        lots = ((0, 1), (1, 2), (0, 2), ())
        found = other_letter(THREE, code, lots, letter, drawn, other)
        nothing = ((),) * 4
        one = letter_sent(THREE, code, letter, drawn, nothing, nothing)
        two = letter_sent(THREE, code, other, found, nothing, nothing)
        for place, lot in enumerate(lots):
            self.assertEqual([one[place][link] for link in lot], [two[place][link] for link in lot])
        self.assertNotEqual(one, two)

    def test_equally_many_drawn_words(self):
        """[17.3]: each letter of as many parts comes with equally many rows of drawn words with what is tapped."""
        net, code = Net(2, ((0, 1), (0, 1))), plan_or_cut(Net(2, ((0, 1), (0, 1))), (1,), (1, 0, 0, 1), 7)[1]
        own = own_of(code)
        for letter in ("a", "z"):
            for lot in ((0,), (1,)):
                for part in parts_of(code[0], 1, letter):
                    counts = {}
                    for drawn in itertools.product(own.words(), repeat=1):
                        key = sent(net, code, part, drawn, (), ())[lot[0]]
                        counts[key] = counts.get(key, 0) + 1
                    self.assertEqual(set(counts.values()), {1})
                    self.assertEqual(len(counts), 49)

    def test_lots_that_leak(self):
        found = other_letter(TWO, SHARED, ((0,), (0, 1)), "a", (((3, 4),), ((0, 7),)), "b")
        # The end is the same in both letters: so the second part leaks, but tells them not apart.
        self.assertEqual(found, (((3, 3),), ((0, 7),)))
        with self.assertRaises(errors.Refused) as caught:
            other_letter(TWO, SHARED, ((0, 1), (0,)), "a", (((3, 4),), ((0, 7),)), "b")
        self.assertEqual(caught.exception.reason, ("leak",))
        told(self, other_letter, [TWO, SHARED, ((0, 1), (2,)), "a", (((3, 4),), ((0, 7),)), "b"], errors.Refused)
        told(self, other_letter, [TWO, SHARED, ((0,), (2,)), "a", (((3, 4),), ((0, 7),)), "b"], errors.InvalidLinks)
        told(self, other_letter, [TWO, SHARED, ((2,), (0,)), "a", (0, ((0, 7),)), "b"], errors.InvalidLinks)
        told(self, other_letter, [TWO, SHARED, ((0,), (2,)), "a", (0, ((0, 7),)), "b"], errors.InvalidWord)
        told(self, other_letter, [TWO, SHARED, ((0,), (1,)), "a", (((3, 4),), ((0, 13),)), "b"], errors.InvalidWord)

    def test_unlike_numbers_of_parts(self):
        drawn = (((3, 4),), ((0, 7),))
        for other in ("", "bb", "b" * 400):
            told(self, other_letter, [TWO, SHARED, ((0,), (1,)), "a", drawn, other], errors.InvalidOperation)
            # Told ahead of what is wrong with the parts.
            told(self, other_letter, [TWO, SHARED, ((0, 1), (2,)), "a", (0, 0), other], errors.InvalidOperation)
        told(self, other_letter, [TWO, SHARED, ((0,), (1,)), "a", drawn[:1], "B"], errors.InvalidOperation)
        told(self, other_letter, [TWO, SHARED, ((0,),), "a", drawn, "B"], errors.InvalidOperation)
        told(self, other_letter, [TWO, SHARED, ((0,), (1,)), "a", drawn, "B"], errors.InvalidText)

    def test_wrong_arguments(self):
        members = [*junk(), 0, 1, (), ((),), ((), (), ()), [(), ()], {0: (), 1: ()}, "ab", 2]
        lots = [*without(junk(), tuple), 0, 1, [(0,), (1,)], {0: ()}, "ab", ((),) * 3001]
        check_parameters(self, other_letter, [TWO, SHARED, ((0,), (1,)), "a", (((3, 4),), ((0, 7),)), "b"], [
            (errors.InvalidNet, wrong_nets()), (errors.InvalidCode, wrong_codes(TWO, SHARED)),
            (errors.InvalidOperation, lots),
            (errors.InvalidText, wrong_letters()),
            (errors.InvalidOperation, [value for value in members if not (isinstance(value, tuple) and len(value) == 2)]),
            (errors.InvalidText, wrong_letters()),
        ])
        told(self, other_letter, [TWO, SHARED, ((0,),) * 3000, "a", (((3, 4),), ((0, 7),)), "b"], errors.InvalidOperation)
        told(self, other_letter, [TWO, SHARED, ((0,),) * 3000, "A", (((3, 4),), ((0, 7),)), "b"], errors.InvalidText)
        told(self, other_letter, [TWO, SHARED, ((0,),) * 3001, "A", (((3, 4),), ((0, 7),)), "b"], errors.InvalidOperation)


class NoneIsTrue(unittest.TestCase):
    """[17.4]"""

    def test_more_signs_in_as_many_parts(self):
        field = Field(13, 6)
        self.assertEqual(len(parts_of(field, 1, "a")), len(parts_of(field, 1, "ab")))

    def test_all_parts_with_the_same_drawn_words(self):
        # Each part alone is hidden from link 0; but what two parts differ by is told there.
        self.assertIs(does_hide(TWO, SHARED, 1), True)
        for letter in ("aa", "ab"):
            parts = parts_of(SHARED[0], 1, letter)
            nothing = ((),) * len(parts)
            rows = letter_sent(TWO, SHARED, letter, (((3, 4),),) * len(parts), nothing, nothing)
            self.assertEqual(rows[0][0] == rows[1][0], letter == "aa")

    def test_parts_of_two_letters(self):
        field = Field(13, 2)
        parts = parts_of(field, 1, "a") + parts_of(field, 1, "b")
        told(self, letter_of, [field, 1, parts], errors.Refused)
