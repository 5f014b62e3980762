"""Stage 14: sending and reading."""

import itertools
import random
import unittest

from rowsthrough import errors
from rowsthrough.base import fields
from rowsthrough.base.fields import Field
from rowsthrough.bent.telling import does_tell
from rowsthrough.bent.wrong import bent_words
from rowsthrough.net import nets
from rowsthrough.net.nets import Net
from rowsthrough.whole import sending
from rowsthrough.whole.plans import plan_or_cut
from rowsthrough.whole.sending import fitting, heard, is_fitting, read, sent, source_words
from tests.helper import (
    check_judge, check_parameters, drawn_nets, junk, own_carried, own_heard, own_into, own_of, own_sendings,
    own_source,
    pairs_of, random_code, random_words, run_examples, spoiled, subsets, told, wrong_codes, wrong_lots, wrong_nets,
    wrong_numbers, wrong_points, wrong_wrongs,
)

EXAMPLES = """
>>> LINE = Net(2, ((0, 1), (0, 1), (0, 1)))
>>> SAME = (Field(2, 2), ((1,), (1,), (1,)), (((1, 0),),), 1)
>>> TOLD = sent(LINE, SAME, ((1, 1),), (), ((1, (0, 1)),), ())
>>> [TOLD, heard(LINE, TOLD, 1) == TOLD, read(LINE, SAME, 1, 1, (), TOLD), sent(LINE, SAME, ((1, 1),), (), ((2, (0, 1)),), (0,))]
[((1, 1), (1, 0), (1, 1)), True, ((1, 1),), ((0, 0), (1, 1), (1, 0))]
>>> [fitting(LINE, SAME, 1, 1, (), ((1, 1), (1, 0), (0, 1))), is_fitting(LINE, SAME, 1, 2, (), TOLD, ("fits", ((1, 0),), (), ((0, (0, 1)), (2, (0, 1)))))]
[('none',), True]
>>> [source_words(LINE, SAME, ((0, 1),), ()), fitting(LINE, SAME, 1, 0, (0, 1), ((0, 0), (0, 0), (1, 0)))]
[((0, 1),), ('fits', ((1, 0),), (), ())]
>>> read(LINE, SAME, 1, 2, (), TOLD)
raises Refused(('two',))
"""

LINE = Net(2, ((0, 1), (0, 1), (0, 1)))
SAME = (Field(2, 2), ((1,), (1,), (1,)), (((1, 0),),), 1)
# One link behind two others, and a point that nothing leads to.
DEEP = Net(5, ((0, 1), (0, 1), (1, 2), (1, 4), (2, 4), (3, 4)))
PAIR = (Field(2, 2), ((1, 0), (0, 1), (1, 1), (0, 1), (1,), ()), (((1, 0), (0, 1)), ((0, 0), (1, 0))), 1)
OPEN = (Field(3, 1), ((1,), (2,), (1, 1), (1, 0), (1,), ()), (((1,),),), 1)
FULL = Net(2, ((0, 1),) * 20)
SAID = (Field(2, 1), ((1,),) * 20, (((1,),),), 1)
# No link leads to point 2.
LOST = Net(3, ((0, 1), (0, 1)))


def bent_of(chance, net, own, most=5):
    """Some wrong links with their words, and some silent ones."""
    many = len(net.links)
    links = chance.sample(range(many), min(many, chance.randrange(most + 1)))
    number = chance.randrange(len(links) + 1)
    pairs = tuple((link, random_words(chance, own.q, own.m, 1)[0]) for link in sorted(links[:number]))
    return pairs, tuple(sorted(links[number:]))


def sendings(seed):
    """Nets, codes, message words, drawn words, wrong links and silent ones."""
    chance = random.Random(seed)
    for net in (LINE, DEEP, LOST, FULL, *drawn_nets(seed)):
        for q, m in ((2, 1), (2, 6), (3, 2), (5, 3), (13, 6)):
            many = chance.randrange(1, 13)
            code = random_code(chance, net, q, m, chance.randrange(1, 7), many, chance.randrange(1, many + 1), 2)
            words = random_words(chance, q, m, many)
            pairs, silent = bent_of(chance, net, own_of(code))
            yield net, code, words[:code[3]], words[code[3]:], pairs, silent


def small_questions(seed):
    """Nets and codes so small that all sendings can be tried: with the sink, t and silent links."""
    chance = random.Random(seed)
    shapes = ((LINE, 1, 3), (DEEP, 4, 6), (LOST, 2, 2), (LOST, 1, 2))
    drawn = [(net, chance.randrange(1, net.points), len(net.links)) for net in drawn_nets(seed, 5, 5)]
    for net, sink, many in (*shapes, *drawn):
        for q, m, rows in ((2, 1, 1), (2, 1, 3), (3, 1, 2), (2, 2, 1)):
            code = random_code(chance, net, q, m, chance.randrange(1, 4), rows, chance.randrange(1, rows + 1), 3)
            for t in range(3):
                silent = tuple(sorted(chance.sample(range(many), min(many, chance.randrange(3)))))
                if q ** (m * (rows + min(t, many - len(silent)))) <= 130:
                    yield net, code, sink, t, silent
    # The message is told by each link.
    for t, silent in itertools.product(range(3), ((), (0,))):
        yield Net(2, ((0, 1),) * 6), (Field(2, 1), ((1,),) * 6, (((1,),),), 1), 1, t, silent
        yield LINE, (Field(3, 1), ((1,), (2,), (1,)), (((1,),),), 1), 1, t, silent


def own_fits(net, code, sink, t, silent):
    """For all words that can be heard with at most t wrong links the messages that they fit."""
    own, found = own_of(code), {}
    for sending in own_sendings(own, net, code, silent, t):
        words = own_heard(own, net, code, sink, silent, sending)
        found.setdefault(words, set()).add(sending[0])
    return found


def some_words(chance, net, code, sink, fits):
    """Some words that can be heard, and some others."""
    own, many = own_of(code), len(own_into(net, sink))
    yield from chance.sample(sorted(fits), min(len(fits), 8))
    for _ in range(4):
        yield random_words(chance, own.q, own.m, many)


class Examples(unittest.TestCase):
    def test_examples(self):
        run_examples(self, EXAMPLES, {**vars(nets), **vars(fields), **vars(sending)})


class Sent(unittest.TestCase):
    def test_own_sums_link_by_link(self):
        seen = set()
        for net, code, message, drawn, pairs, silent in sendings(171):
            own = own_of(code)
            source = own_source(own, code, message, drawn)
            self.assertEqual(source_words(net, code, message, drawn), source)
            found = sent(net, code, message, drawn, pairs, silent)
            self.assertEqual(found, own_carried(net, own.q, own.m, code[1], source, pairs, silent))
            self.assertEqual(found, bent_words(net, code[0], len(source), code[1], source, pairs, silent))
            for sink in range(1, net.points):
                self.assertEqual(heard(net, found, sink), tuple(found[link] for link in own_into(net, sink)))
            seen.add((len(pairs), len(silent), bool(drawn)))
        for number in range(3):
            for silent in range(3):
                self.assertTrue({(number, silent, True), (number, silent, False)} & seen)
        self.assertEqual({entry[2] for entry in seen}, {True, False})

    def test_wrong_links_that_lead_to_wrong_and_silent_ones(self):
        # What is added at 0 comes through 2 and 4, where more is added; a silent link lets nothing through.
        one, x, nought = (1, 0), (0, 1), (0, 0)
        found = sent(DEEP, PAIR, (one,), (nought,), ((0, x), (2, one), (4, x)), ())
        self.assertEqual(found, ((1, 1), (0, 1), (0, 0), (0, 1), (0, 1), (0, 0)))
        found = sent(DEEP, PAIR, (one,), (nought,), ((0, x), (4, one)), (2,))
        self.assertEqual(found, ((1, 1), (0, 1), (0, 0), (0, 1), (1, 0), (0, 0)))
        found = sent(DEEP, PAIR, (one,), (nought,), ((5, x),), (0, 4))
        self.assertEqual(found, ((0, 0), (0, 1), (0, 1), (0, 1), (0, 0), (0, 1)))
        # Zero words as wrong ones change nothing.
        self.assertEqual(sent(DEEP, PAIR, (x,), (one,), ((0, nought), (4, nought)), ()), sent(DEEP, PAIR, (x,), (one,), (), ()))

    def test_sums(self):
        """[14.1]: what is carried for sums is the sum of what is carried for each."""
        chance = random.Random(172)
        for net, code, message, drawn, pairs, silent in sendings(173):
            own = own_of(code)
            q, m, r, d = own.q, own.m, len(message), len(drawn)
            more = random_words(chance, q, m, r + d)
            further = tuple((link, random_words(chance, q, m, 1)[0]) for link, _ in pairs)
            total = sent(
                net, code, tuple(map(own.plus, message, more)), tuple(map(own.plus, drawn, more[r:])),
                tuple((link, own.plus(word, other)) for (link, word), (_, other) in zip(pairs, further)), silent,
            )
            one, other = sent(net, code, message, drawn, pairs, silent), sent(net, code, more[:r], more[r:], further, silent)
            self.assertEqual(total, tuple(map(own.plus, one, other)))
            zero = (own.zero,) * max(r, d)
            parts = [
                sent(net, code, message, zero[:d], (), silent), sent(net, code, zero[:r], drawn, (), silent),
                sent(net, code, zero[:r], zero[:d], pairs, silent),
            ]
            self.assertEqual(one, tuple(own.total(words) for words in zip(*parts)))

    def test_wrong_arguments(self):
        message, drawn, pairs, silent = ((1, 1),), ((0, 1),), ((0, (1, 1)), (4, (0, 1))), (1, 3)
        words = [
            *junk(), 0, 1, (), *spoiled(message), (message,), ((1, 1), (1, 1)), ((1,),), ((1, 1, 1),), ((2, 0),),
            ((-1, 0),), (1, 1),
            ((True, 0),), ((0, None),),
        ]
        begun = [
            (errors.InvalidNet, wrong_nets()), (errors.InvalidCode, wrong_codes(DEEP, PAIR)),
            (errors.InvalidWord, words),
            (errors.InvalidWord, words),
        ]
        check_parameters(self, source_words, [DEEP, PAIR, message, drawn], begun)
        check_parameters(self, sent, [DEEP, PAIR, message, drawn, pairs, silent], [
            *begun, (errors.InvalidLinks, wrong_wrongs(DEEP, PAIR[0], pairs)),
            (errors.InvalidLinks, wrong_lots(DEEP, silent)),
        ])
        told(self, source_words, [LINE, SAME, ((1, 1),), ((1, 1),)], errors.InvalidWord)
        told(self, source_words, [LINE, SAME, (), ()], errors.InvalidWord)

    def test_a_link_that_is_wrong_and_silent(self):
        words = [DEEP, PAIR, ((1, 1),), ((0, 1),)]
        for lot in subsets(range(6)):
            for silent in subsets(range(6)):
                pairs = tuple((link, (0, 1)) for link in lot)
                if set(lot) & set(silent):
                    told(self, sent, [*words, pairs, silent], errors.InvalidOperation)
                else:
                    self.assertEqual(len(sent(*words, pairs, silent)), 6)
        told(self, sent, [*words, ((0, (0, 0)),), (0,)], errors.InvalidOperation)
        # It is told behind all others.
        told(self, sent, [*words, ((0, (0, 1)),), (0, 6)], errors.InvalidLinks)
        told(self, sent, [*words, ((0, (0, 1)), (7, (0, 1))), (0,)], errors.InvalidLinks)


class Heard(unittest.TestCase):
    def test_words_of_unlike_lengths(self):
        words = ((0,), (12, 0, 12), (1, 2, 3, 4, 5, 6), (12,) * 6, (7, 0), (0, 0, 0, 1))
        self.assertEqual(heard(DEEP, words, 1), ((0,), (12, 0, 12)))
        self.assertEqual([heard(DEEP, words, 2), heard(DEEP, words, 3)], [((1, 2, 3, 4, 5, 6),), ()])
        self.assertEqual(heard(DEEP, words, 4), ((12,) * 6, (7, 0), (0, 0, 0, 1)))
        self.assertEqual(heard(Net(3, ()), (), 2), ())

    def test_wrong_arguments(self):
        words = ((0,), (12, 0), (1, 2, 3), (1,), (0,), (0,))
        wrong = [
            *junk(), 0, 1, (), *spoiled(words), words[:-1], (*words, (0,)), ((),) * 6, ((13,),) * 6, ((-1,),) * 6,
            ((1,) * 7,) * 6,
            ((True,),) * 6, ((False, 0),) * 6, (1,) * 6, "000000", [*words],
        ]
        for place in range(6):
            for member in ((), (13,), (0,) * 7, (0, -1), (None,), (True,), [0], 0, "0", ((0,),)):
                wrong.append((*words[:place], member, *words[place + 1:]))
        check_parameters(self, heard, [DEEP, words, 4], [
            (errors.InvalidNet, wrong_nets()), (errors.InvalidWord, wrong),
            (errors.InvalidNumber, wrong_points(DEEP)),
        ])


class Reading(unittest.TestCase):
    def check(self, net, code, sink, t, silent, words, messages):
        """The answers for words that fit just these messages."""
        own, arguments = own_of(code), [net, code, sink, t, silent, words]
        answer = fitting(*arguments)
        self.assertEqual(answer[0], "fits" if messages else "none")
        self.assertIs(is_fitting(*arguments, answer), True)
        self.assertIs(is_fitting(*arguments, ("none",)), not messages)
        if messages:
            _, message, drawn, pairs = answer
            self.assertIn(message, messages)
            self.assertEqual(own_heard(own, net, code, sink, silent, (message, drawn, pairs)), words)
            links = [link for link, _ in pairs]
            self.assertTrue(len(links) <= t and links == sorted(set(links)) and not set(links) & set(silent))
        else:
            self.assertEqual(answer, ("none",))
        if len(messages) > 1:
            with self.assertRaises(errors.Refused) as caught:
                read(*arguments)
            self.assertEqual(caught.exception.reason, ("two",))
        else:
            self.assertEqual(read(*arguments), min(messages) if messages else None)
        return min(len(messages), 2)

    def test_which_messages_fit(self):
        chance, seen = random.Random(174), set()
        for net, code, sink, t, silent in small_questions(175):
            fits = own_fits(net, code, sink, t, silent)
            for words in some_words(chance, net, code, sink, fits):
                number = self.check(net, code, sink, t, silent, words, fits.get(words, set()))
                seen.add((number, t, bool(silent), bool(words)))
        for number, t, silent in itertools.product(range(3), range(3), (True, False)):
            self.assertIn((number, t, silent, True), seen)
        self.assertIn((2, 1, False, False), seen)

    def test_all_words_of_small_nets(self):
        line = Net(3, ((0, 1), (0, 2), (1, 2), (1, 2)))
        code = (Field(3, 1), ((1, 0), (1, 1), (1,), (2,)), (((1,), (0,)), ((0,), (1,))), 1)
        numbers = set()
        for net, some, sink in ((LINE, SAME, 1), (line, code, 2)):
            own = own_of(some)
            for t in range(5):
                for silent in ((), (0,), (1, 2)):
                    fits = own_fits(net, some, sink, t, silent) if t < 3 else None
                    for words in itertools.product(own.words(), repeat=3):
                        if fits is not None:
                            numbers.add((t, self.check(net, some, sink, t, silent, words, fits.get(words, set()))))
                        elif not any(any(word) for word, link in zip(words, own_into(net, sink)) if link in silent):
                            # Whatever is heard fits with so many wrong links, more than there are.
                            self.assertEqual(fitting(net, some, sink, t, silent, words)[0], "fits")
        self.assertTrue({(0, 0), (0, 1), (1, 0), (1, 1), (1, 2), (2, 2)} <= numbers)

    def test_no_links_into_the_sink(self):
        for net, code, sink in (
            (LOST, (Field(2, 2), ((1,), (1,)), (((1, 0),), ((0, 1),)), 1), 2),
            (Net(3, ()), (Field(3, 1), (), (((1,),),), 1), 1),
        ):
            for t in (0, 1, 6):
                answer = fitting(net, code, sink, t, (), ())
                self.assertEqual(answer[0], "fits")
                self.assertIs(is_fitting(net, code, sink, t, (), (), answer), True)
                self.assertIs(is_fitting(net, code, sink, t, (), (), ("none",)), False)
                told(self, read, [net, code, sink, t, (), ()], errors.Refused)

    def test_what_is_heard_on_silent_links(self):
        # A silent link carries zero: so nothing fits if something is heard there.
        self.assertEqual(fitting(LINE, SAME, 1, 6, (0,), ((1, 0), (1, 0), (1, 0))), ("none",))
        self.assertIsNone(read(LINE, SAME, 1, 0, (0, 1, 2), ((0, 0), (0, 0), (0, 1))))
        told(self, read, [LINE, SAME, 1, 0, (0, 1, 2), ((0, 0),) * 3], errors.Refused)
        self.assertEqual(read(LINE, SAME, 1, 0, (0, 2), ((0, 0), (0, 1), (0, 0))), ((0, 1),))

    def test_what_the_code_tells_is_read(self):
        """[14.2]: with at most t wrong links, and s silent ones, whatever they carry."""
        chance, seen = random.Random(176), set()
        nets_and_numbers = (
            (FULL, (1,), (1, 1, 1, 0), 2), (FULL, (1,), (2, 2, 0, 0), 3), (FULL, (1,), (1, 0, 3, 1), 5),
            (LINE, (1,), (1, 1, 0, 0), 13),
            (Net(4, ((0, 1),) * 3 + ((0, 2),) * 3 + ((0, 3),) * 2 + ((1, 3),) * 3 + ((2, 3),) * 2), (1, 2, 3), (1, 1, 0, 0), 3),
            (Net(3, ((0, 1),) * 5 + ((0, 2),) + ((1, 2),) * 4), (1, 2), (1, 1, 1, 1), 2),
        )
        for net, sinks, numbers, q in nets_and_numbers:
            kind, code = plan_or_cut(net, sinks, numbers, q)
            self.assertEqual(kind, "plan")
            own, (r, t, s, k) = own_of(code), numbers
            for _ in range(6):
                message, drawn = random_words(chance, q, own.m, r), random_words(chance, q, own.m, k)
                links = chance.sample(range(len(net.links)), chance.randrange(t + 1) + s)
                silent = tuple(sorted(links[:chance.randrange(s + 1)]))
                pairs = tuple((link, random_words(chance, q, own.m, 1)[0]) for link in sorted(links[s:]))
                words = sent(net, code, message, drawn, pairs, silent)
                for sink in sinks:
                    told_words = heard(net, words, sink)
                    self.assertEqual(read(net, code, sink, t, silent, told_words), message)
                    self.assertEqual(fitting(net, code, sink, t, silent, told_words)[1], message)
                    seen.add((len(pairs), len(silent)))
        self.assertTrue({(0, 0), (1, 0), (1, 1), (2, 0), (0, 1)} <= seen)

    def test_drawn_codes_that_tell(self):
        chance, told_ones = random.Random(177), 0
        for net in (LINE, DEEP, *drawn_nets(178, 8, 5)):
            for q, m in ((2, 2), (3, 1), (5, 2)):
                code = random_code(chance, net, q, m, 2, 2, 1)
                for sink, t, s in itertools.product(range(1, net.points), range(2), range(2)):
                    many = len(net.links)
                    if many > t + s and does_tell(net, code, sink, t, s):
                        links = chance.sample(range(many), t + s)
                        words = random_words(chance, q, m, 3)
                        silent, pairs = tuple(links[t:]), tuple((link, words[2]) for link in links[:t])
                        found = heard(net, sent(net, code, words[:1], words[1:2], pairs, silent), sink)
                        self.assertEqual(read(net, code, sink, t, silent, found), words[:1])
                        told_ones += 1
        self.assertGreater(told_ones, 20)


class Judged(unittest.TestCase):
    def test_all_sendings_judged(self):
        chance, seen = random.Random(179), set()
        for net, code, sink, t, silent in small_questions(180):
            own = own_of(code)
            most = list(own_sendings(own, net, code, silent, min(t + 1, 2)))
            words = own_heard(own, net, code, sink, silent, chance.choice(most))
            for sending in chance.sample(most, min(len(most), 60)):
                right = len(sending[2]) <= t and own_heard(own, net, code, sink, silent, sending) == words
                self.assertIs(is_fitting(net, code, sink, t, silent, words, ("fits", *sending)), right)
                seen.add((right, len(sending[2]) > t))
        self.assertEqual(seen, {(True, False), (False, False), (False, True)})

    def test_zero_words_and_silent_links(self):
        words, nought = ((1, 1), (1, 1), (0, 0)), (0, 0)
        arguments = [LINE, SAME, 1, 1, (2,), words]
        right = ("fits", ((1, 1),), ())
        for pairs, judged in (
            ((), True), (((0, nought),), True), (((1, nought),), True), (((2, nought),), False),
            (((0, nought), (1, nought)), False),
            (((2, (1, 1)),), False), (((0, (1, 1)),), False), (((3, nought),), False),
        ):
            self.assertIs(is_fitting(*arguments, (*right, pairs)), judged)
        self.assertIs(is_fitting(LINE, SAME, 1, 2, (2,), words, (*right, ((0, nought), (1, nought)))), True)
        self.assertIs(is_fitting(LINE, SAME, 1, 0, (2,), words, (*right, ((0, nought),))), False)

    def test_other_drawn_words(self):
        # Point 4 hears the source word 1 alone on the link 3: all drawn words do, with other words added.
        words = heard(DEEP, sent(DEEP, PAIR, ((1, 1),), ((0, 1),), (), ()), 4)
        arguments, found = [DEEP, PAIR, 4, 2, (), words], set()
        own = own_of(PAIR)
        for message, drawn in itertools.product(own.words(), repeat=2):
            for pairs in itertools.product(own.words(), repeat=2):
                value = ("fits", (message,), (drawn,), ((3, pairs[0]), (4, pairs[1])))
                right = own_heard(own, DEEP, PAIR, 4, (), value[1:]) == words
                self.assertIs(is_fitting(*arguments, value), right)
                if right:
                    found.add((message, drawn))
        self.assertEqual(len(found), 16)

    def test_values_of_any_kind(self):
        words = ((1, 1), (1, 0), (1, 1))
        arguments, right = [LINE, SAME, 1, 1, (), words], ("fits", ((1, 1),), (), ((1, (0, 1)),))
        self.assertIs(is_fitting(*arguments, right), True)
        values = [
            *pairs_of("fits", "none"), ("none",), ["none"], ("none", ()), "none", ("fits",), right[:3], (*right, ()),
            list(right), right[1:],
            ("Fits", *right[1:]), ("none", *right[1:]), ("fits", ((1, 0),), (), ((1, (0, 1)),)),
            ("fits", (), (), ((1, (0, 1)),)),
            ("fits", ((1, 1),), ((0, 0),), ((1, (0, 1)),)), ("fits", ((1, 1),), (), ((1, (1, 1)),)),
            ("fits", ((1, 1),), (), ()),
            *[("fits", *value) for value in spoiled(right[1:]) if isinstance(value, tuple)],
            *[("fits", ((1, 1),), (), value) for value in wrong_wrongs(LINE, SAME[0], right[3])],
        ]
        check_judge(self, is_fitting, arguments, values)
        arguments[5] = ((1, 1), (1, 0), (0, 1))
        self.assertIs(is_fitting(*arguments, ("none",)), True)
        values.remove(("none",))
        check_judge(self, is_fitting, arguments, [*values, right])


class Wrong(unittest.TestCase):
    def test_wrong_arguments(self):
        words = ((1, 1), (0, 1), (0, 0))
        given = [
            *junk(), 0, 1, (), *spoiled(words), words[:2], (*words, (0, 0)), ((1,),) * 3, ((2, 0),) * 3,
            ((1, 1, 1),) * 3, (words,),
            ((True, 0), (0, 1), (0, 0)), "000", ((0, 0), (0, 1), None),
        ]
        wrong = [
            (errors.InvalidNet, wrong_nets()), (errors.InvalidCode, wrong_codes(DEEP, PAIR)[::2]),
            (errors.InvalidNumber, wrong_points(DEEP)), (errors.InvalidNumber, wrong_numbers(6)),
            (errors.InvalidLinks, wrong_lots(DEEP, (0, 2))), (errors.InvalidWord, given),
        ]
        for function in (fitting, read):
            right = [DEEP, PAIR, 4, 1, (0, 2), words] if function is fitting else [DEEP, PAIR, 4, 0, (0, 2), words]
            check_parameters(self, function, right, wrong)
        check_parameters(self, is_fitting, [DEEP, PAIR, 4, 1, (0, 2), words, 0], [*wrong, None])

    def test_too_many_lots(self):
        for silent, t in (
            ((), 6), ((0,), 6), ((5, 9), 6), ((), 5), (tuple(range(14)), 6), (tuple(range(15)), 6),
            (tuple(range(20)), 6),
        ):
            words = tuple((0,) if link in silent else (1,) for link in range(20))
            arguments = [FULL, SAID, 1, t, silent, words]
            # 38,760 and 27,132 lots are too many; 18,564 and 15,504 are not.
            if t == 6 and len(silent) < 2:
                for function, further in ((fitting, []), (read, []), (is_fitting, [0]), (is_fitting, [("none",)])):
                    with self.assertRaises(errors.TooMany) as caught:
                        function(*arguments, *further)
                    self.assertEqual(caught.exception.limit, 20000)
                for place, value, wanted in ((4, (20,), errors.InvalidLinks), (5, words[1:], errors.InvalidWord)):
                    told(self, fitting, [*arguments[:place], value, *arguments[place + 1:]], wanted)
            else:
                self.assertEqual(fitting(*arguments)[0], "fits")
                self.assertIs(is_fitting(*arguments, 0), False)
                self.assertIs(is_fitting(*arguments, ("fits", ((1,),), (), ())), True)
        told(self, fitting, [FULL, SAID, 1, 6, (), ((1,),) * 19], errors.InvalidWord)
        told(self, read, [FULL, SAID, 1, 7, (), ((1,),) * 20], errors.InvalidNumber, [7])

    def test_refused_behind_all_others(self):
        words = ((0, 0),) * 3
        told(self, read, [LINE, SAME, 1, 3, (), words], errors.Refused)
        told(self, read, [LINE, SAME, 1, 3, (3,), words], errors.InvalidLinks)
        told(self, read, [LINE, SAME, 1, 3, (), words[1:]], errors.InvalidWord)


class NoneIsTrue(unittest.TestCase):
    """[14.4]"""

    def test_drawn_words_of_several_kinds(self):
        # The one link carries the message word and the drawn word, the other one the drawn word alone.
        two, shared = Net(2, ((0, 1), (0, 1))), (Field(2, 2), ((1, 0), (0, 1)), (((1, 0), (0, 0)), ((1, 0), (1, 0))), 1)
        words = ((1, 0), (0, 0))
        self.assertIs(is_fitting(two, shared, 1, 1, (), words, ("fits", ((0, 0),), ((1, 0),), ((1, (1, 0)),))), True)
        self.assertIs(is_fitting(two, shared, 1, 1, (), words, ("fits", ((0, 0),), ((0, 0),), ((0, (1, 0)),))), True)

    def test_words_that_fit_nothing(self):
        self.assertIs(does_tell(LINE, SAME, 1, 1, 0), True)
        self.assertEqual(fitting(LINE, SAME, 1, 1, (), ((1, 1), (1, 0), (0, 1))), ("none",))

    def test_what_fits_with_fewer_wrong_links(self):
        words = ((1, 1), (1, 0), (1, 1))
        found = fitting(LINE, SAME, 1, 1, (), words)
        for t in range(1, 7):
            self.assertIs(is_fitting(LINE, SAME, 1, t, (), words, found), True)

    def test_less_heard_than_the_sink(self):
        # Point 1 hears the message, and point 2, behind it, hears it on fewer links.
        net, code = Net(3, ((0, 1), (0, 1), (1, 2))), (Field(2, 1), ((1,), (1,), (1, 0)), (((1,),),), 1)
        words = sent(net, code, ((1,),), (), (), ())
        self.assertEqual(
            [read(net, code, 1, 0, (), heard(net, words, 1)), read(net, code, 2, 0, (), heard(net, words, 2))],
            [((1,),)] * 2,
        )
