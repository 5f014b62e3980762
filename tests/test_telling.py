"""Stage 11: what a sink can tell."""

import itertools
import math
import random
import unittest

from rowsthrough import errors
from rowsthrough.base import fields
from rowsthrough.base.fields import Field
from rowsthrough.bent import telling as module
from rowsthrough.bent.telling import (
    MOST_CHOICES, MOST_ROWS, does_tell, is_code, is_reader_or_mixed, is_telling, most_wrong, read_by, reader_or_mixed,
    sink_words, telling,
)
from rowsthrough.net import nets
from rowsthrough.net.nets import Net
from tests.helper import (
    asked_rows, check_judge, check_parameters, choices, drawn_nets, has_reader, junk, own_field, own_heard, own_into,
    own_of, own_sendings, own_sink_words, pairs_of, random_code, random_words, run_examples, spoiled,
    subsets, tells_by_all_sendings, told, wrong_codes, wrong_lots, wrong_nets, wrong_numbers, wrong_points,
)

EXAMPLES = """
>>> THREE = Net(2, ((0, 1), (0, 1), (0, 1)))
>>> SAID = (Field(2, 1), ((1,), (1,), (1,)), (((1,),),), 1)
>>> [most_wrong(THREE, SAID, 1, 0), most_wrong(THREE, SAID, 1, 1), most_wrong(THREE, SAID, 1, 3), does_tell(THREE, SAID, 1, 1, 1), telling(THREE, SAID, 1, 1, 1)[0]]
[1, 0, None, False, 'two']
>>> [reader_or_mixed(THREE, SAID, 1, (), (0, 1)), reader_or_mixed(THREE, SAID, 1, (), (0, 1, 2)), sink_words(THREE, SAID, 1, (2,))]
[('reader', (((0,), (0,), (1,)),)), ('mixed', ((1,),), (), ((1,), (1,), (1,))), (((1,), (1,), (0,)),)]
>>> [read_by(THREE, SAID, 1, (((0,), (0,), (1,)),), ((1,), (1,), (0,))), is_telling(THREE, SAID, 1, 1, 1, ("two", (2,), (((1,),), (), ((0, (1,)),)), (((0,),), (), ((1, (1,)),))))]
[((0,),), True]
"""

THREE = Net(2, ((0, 1), (0, 1), (0, 1)))
SAID = (Field(2, 1), ((1,), (1,), (1,)), (((1,),),), 1)
TWIN = Net(6, ((0, 1), (0, 2), (1, 3), (1, 5), (2, 3), (2, 4), (3, 4), (3, 5)))
MIXING = ((1, 0), (0, 1), (1,), (1,), (1,), (1,), (1, 1), (1, 1))
# One message word and one drawn word over the field of 4.
DRAWN = (Field(2, 2), MIXING, (((0, 1), (1, 1)), ((1, 0), (1, 1))), 1)
BARE = Net(4, ())
WIDE = Net(2, ((0, 1),) * 5)
# The codes over it are sent along all links, and one link more.
LINE = Net(3, ((0, 1), (0, 1), (0, 1), (1, 2), (1, 2), (1, 2)))


def is_own_reader(net, code, sink, silent, lot, reader):
    own, rows = own_of(code), asked_rows(net, code, sink, silent, lot)
    for index, words in enumerate(reader):
        wanted = [own.one if place == index else own.zero for place in range(len(rows))]
        if [own.dot(row, words) for row in rows] != wanted:
            return False
    return True


def is_own_mixed(net, code, sink, silent, lot, message, drawn, added):
    own = own_of(code)
    heard = own_heard(own, net, code, sink, silent, (message, drawn, tuple(zip(lot, added))))
    return any(word != own.zero for word in message) and all(word == own.zero for word in heard)


def questions(seed, most_links=12):
    """Nets, codes and sinks."""
    chance = random.Random(seed)
    for net in (THREE, TWIN, WIDE, LINE, BARE, *drawn_nets(seed, most_links, 7)):
        for q, m in ((2, 1), (2, 3), (3, 2), (5, 1), (13, 2)):
            many = chance.randrange(1, 5)
            code = random_code(chance, net, q, m, chance.randrange(1, 5), many, chance.randrange(1, many + 1), chance.choice((0, 4)))
            yield net, code, chance.randrange(1, net.points)


class Examples(unittest.TestCase):
    def test_examples(self):
        run_examples(self, EXAMPLES, {**vars(nets), **vars(fields), **vars(module)})

    def test_constants(self):
        self.assertEqual([MOST_CHOICES, MOST_ROWS], [20000, 12])


class Codes(unittest.TestCase):
    def test_right_ones(self):
        for net, code, _ in questions(110):
            self.assertIs(is_code(net, code), True)
        field, rows = Field(2, 2), (((0, 1), (1, 1)),)
        for many in range(1, 13):
            for messages in range(-1, 15):
                code = (field, MIXING, rows * many, messages)
                self.assertIs(is_code(TWIN, code), 1 <= messages <= many)
        for n in range(1, 7):
            code = (field, ((1,) * n,) * 3, (((1, 1),) * n,), 1)
            for other in range(0, 8):
                self.assertIs(is_code(THREE, (field, code[1], (((1, 1),) * other,), 1)), n == other)
        self.assertIs(is_code(BARE, (field, (), rows, 1)), True)
        self.assertIs(is_code(BARE, (field, (), ((field.one,) * 7,), 1)), False)
        self.assertIs(is_code(BARE, (field, (), ((),), 1)), False)
        self.assertIs(is_code(THREE, (field, ((), (), ()), ((),), 1)), False)
        self.assertIs(is_code(THREE, DRAWN), False)

    def test_values_of_any_kind(self):
        for net, code in ((TWIN, DRAWN), (THREE, SAID)):
            self.assertIs(is_code(net, code), True)
            check_judge(self, is_code, [net], wrong_codes(net, code))

    def test_thirteen_rows(self):
        rows = (((0, 1), (1, 1)),)
        self.assertIs(is_code(TWIN, (Field(2, 2), MIXING, rows * 12, 12)), True)
        self.assertIs(is_code(TWIN, (Field(2, 2), MIXING, rows * 13, 12)), False)
        self.assertIs(is_code(TWIN, (Field(2, 2), MIXING, rows * 12, 13)), False)
        self.assertIs(is_code(TWIN, (Field(2, 2), MIXING, (), 0)), False)

    def test_wrong_arguments(self):
        check_parameters(self, is_code, [TWIN, 0], [(errors.InvalidNet, wrong_nets()), None])


class SinkWords(unittest.TestCase):
    def test_own_words(self):
        chance = random.Random(111)
        for net, code, sink in questions(112):
            for many in range(3):
                silent = tuple(sorted(chance.sample(range(len(net.links)), min(many, len(net.links)))))
                self.assertEqual(sink_words(net, code, sink, silent), own_sink_words(net, code, sink, silent))

    def test_wrong_arguments(self):
        wrong = [
            (errors.InvalidNet, wrong_nets()), (errors.InvalidCode, wrong_codes(TWIN, DRAWN)),
            (errors.InvalidNumber, wrong_points(TWIN)), (errors.InvalidLinks, wrong_lots(TWIN, (1, 4))),
        ]
        check_parameters(self, sink_words, [TWIN, DRAWN, 5, (1, 4)], wrong)


class OneChoice(unittest.TestCase):
    def check(self, net, code, sink, silent, lot):
        answer = reader_or_mixed(net, code, sink, silent, lot)
        due = has_reader(net, code, sink, silent, lot)
        self.assertEqual(answer[0], "reader" if due else "mixed")
        links = own_into(net, sink)
        if due:
            self.assertEqual((len(answer), len(answer[1])), (2, code[3]))
            self.assertTrue(all(len(words) == len(links) for words in answer[1]))
            self.assertTrue(is_own_reader(net, code, sink, silent, lot, answer[1]))
        else:
            _, message, drawn, added = answer
            self.assertEqual([len(message), len(drawn), len(added)], [code[3], len(code[2]) - code[3], len(lot)])
            self.assertTrue(is_own_mixed(net, code, sink, silent, lot, message, drawn, added))
        self.assertIs(is_reader_or_mixed(net, code, sink, silent, lot, answer), True)
        return answer

    def test_which_one_is_due(self):
        seen, chance = set(), random.Random(113)
        for net, code, sink in questions(114):
            for _ in range(3):
                bent = chance.sample(range(len(net.links)), min(len(net.links), chance.randrange(5)))
                number = chance.randrange(len(bent) + 1)
                silent, lot = tuple(sorted(bent[:number])), tuple(sorted(bent[number:]))
                answer = self.check(net, code, sink, silent, lot)
                seen.add((answer[0], bool(silent), bool(lot)))
        self.assertEqual(len(seen), 8)

    def test_repeated_words(self):
        """Codes that bring much to the sink, so that much can be wrong."""
        chance, seen = random.Random(115), set()
        for net, sink in ((WIDE, 1), (LINE, 1), (LINE, 2), (TWIN, 4), (TWIN, 5)):
            for q, m, n, many, messages in ((2, 3, 2, 1, 1), (5, 2, 3, 2, 1), (7, 1, 2, 2, 2), (2, 6, 3, 3, 2), (13, 2, 1, 1, 1)):
                for _ in range(4):
                    code = random_code(chance, net, q, m, n, many, messages)
                    for number in range(4):
                        lot = tuple(sorted(chance.sample(range(len(net.links)), number)))
                        seen.add((self.check(net, code, sink, (), lot)[0], number))
        self.assertEqual(len(seen), 8)

    def test_no_links_into_the_sink(self):
        net = Net(4, ((0, 1), (2, 3)))
        code = (Field(3, 1), ((1,), ()), (((2,),), ((1,),)), 1)
        for sink in (2, 3):
            self.assertEqual(self.check(net, code, sink, (0,), (1,))[0], "mixed")
        self.assertEqual(self.check(net, code, 2, (), ())[0], "mixed")
        self.assertIs(is_reader_or_mixed(net, code, 2, (), (), ("reader", ((),))), False)
        self.assertIs(is_reader_or_mixed(net, code, 2, (), (), ("mixed", ((1,),), ((0,),), ())), True)
        self.assertIs(is_reader_or_mixed(net, code, 2, (), (), ("mixed", ((0,),), ((1,),), ())), False)

    def test_no_drawn_rows(self):
        answer = self.check(THREE, SAID, 1, (), ())
        self.assertEqual(answer[0], "reader")
        self.assertEqual(self.check(THREE, SAID, 1, (0, 1, 2), ())[2], ())

    def test_all_values_judged(self):
        seen = set()
        two = Net(2, ((0, 1), (0, 1)))
        for net, code, sink, silent, lot in (
            (THREE, SAID, 1, (), (0, 1)), (THREE, SAID, 1, (2,), (0, 1)), (THREE, SAID, 1, (), ()), (THREE, SAID, 1, (0, 2), ()),
            (two, (Field(2, 1), ((1, 0), (0, 1)), (((1,), (0,)), ((1,), (1,))), 1), 1, (), ()),
            (two, (Field(3, 1), ((1, 2), (2, 1)), (((1,), (0,)), ((1,), (2,))), 1), 1, (), (1,)),
            (two, (Field(3, 1), ((1, 2), (0, 1)), (((1,), (0,)), ((1,), (2,))), 2), 1, (), ()),
        ):
            own, links = own_of(code), own_into(net, sink)
            for words in itertools.product(own.words(), repeat=len(links) * code[3]):
                reader = tuple(words[len(links) * index:len(links) * (index + 1)] for index in range(code[3]))
                right = is_own_reader(net, code, sink, silent, lot, reader)
                self.assertIs(is_reader_or_mixed(net, code, sink, silent, lot, ("reader", reader)), right)
                seen.add(("reader", right))
            for words in itertools.product(own.words(), repeat=len(code[2]) + len(lot)):
                message, drawn, added = words[:code[3]], words[code[3]:len(code[2])], words[len(code[2]):]
                right = is_own_mixed(net, code, sink, silent, lot, message, drawn, added)
                value = ("mixed", message, drawn, added)
                self.assertIs(is_reader_or_mixed(net, code, sink, silent, lot, value), right)
                seen.add(("mixed", right))
        self.assertEqual(len(seen), 4)

    def test_values_of_any_kind(self):
        arguments = [TWIN, DRAWN, 4, (), ()]
        kind, reader = reader_or_mixed(*arguments)
        self.assertEqual(kind, "reader")
        values = [
            *pairs_of("reader", "mixed"), *[("reader", value) for value in spoiled(reader)], ("mixed", reader), reader, (reader,),
            ["reader", reader], ("reader", reader, ()), ("reader", (*reader, reader[0])), ("reader", ()), ("reader", reader[0]),
            ("reader", (reader[0][:1],)), ("reader", ((*reader[0], (0, 0)),)), ("reader", (((2, 0), (0, 1)),)),
            ("mixed", ((0, 0),), ((0, 0),), ()), ("mixed", ((1, 0),), ((0, 0),), ()), ("Reader", reader),
        ]
        check_judge(self, is_reader_or_mixed, arguments, values)
        arguments = [TWIN, DRAWN, 4, (1,), (6,)]
        answer = reader_or_mixed(*arguments)
        self.assertEqual(answer[0], "mixed")
        values = [
            *spoiled(answer), answer[1:], answer[:3], (*answer, ()), list(answer),
            ("reader", *answer[1:]), ("mixed", answer[1:]), ("mixed", ((0, 0),), *answer[2:]), ("mixed", (), *answer[2:]),
            ("mixed", answer[1], (), answer[3]), ("mixed", answer[1], answer[2], ()), ("mixed", answer[1], answer[2], ((2, 0),)),
            ("mixed", answer[1] * 2, answer[2], answer[3]), ("mixed", ((0, 0),), ((0, 0),), ((0, 0),)),
            ("mixed", answer[1] + answer[2], (), answer[3]), ("mixed", answer[1], answer[2], answer[3] * 2),
        ]
        check_judge(self, is_reader_or_mixed, arguments, values)

    def test_wrong_arguments(self):
        wrong = [
            (errors.InvalidNet, wrong_nets()), (errors.InvalidCode, wrong_codes(TWIN, DRAWN)[::3]),
            (errors.InvalidNumber, wrong_points(TWIN)), (errors.InvalidLinks, wrong_lots(TWIN, (1, 4))),
            (errors.InvalidLinks, wrong_lots(TWIN, (2, 3))),
        ]
        check_parameters(self, reader_or_mixed, [TWIN, DRAWN, 5, (1, 4), (2, 3)], wrong)
        check_parameters(self, is_reader_or_mixed, [TWIN, DRAWN, 5, (1, 4), (2, 3), 0], [*wrong, None])

    def test_link_in_both_lots(self):
        for silent, lot in (((0,), (0,)), ((0, 1), (1, 2)), ((1, 2), (0, 2))):
            told(self, reader_or_mixed, [THREE, SAID, 1, silent, lot], errors.InvalidOperation)
            told(self, is_reader_or_mixed, [THREE, SAID, 1, silent, lot, 0], errors.InvalidOperation)
        told(self, reader_or_mixed, [THREE, SAID, 1, (0,), (0, 3)], errors.InvalidLinks)
        told(self, reader_or_mixed, [THREE, SAID, 1, (0,), (0, 0)], errors.InvalidLinks)


class ReadBy(unittest.TestCase):
    def test_own_sums(self):
        chance = random.Random(116)
        for net, code, sink in questions(117):
            own, many = own_of(code), len(own_into(net, sink))
            reader = tuple(random_words(chance, own.q, own.m, many) for _ in range(code[3]))
            words = random_words(chance, own.q, own.m, many)
            self.assertEqual(read_by(net, code, sink, reader, words), tuple(own.dot(row, words) for row in reader))

    def test_messages_are_read(self):
        chance, read = random.Random(118), 0
        for net, code, sink in questions(119):
            own, lot = own_of(code), tuple(range(min(1, len(net.links))))
            kind, *answer = reader_or_mixed(net, code, sink, (), lot)
            for _ in range(3 if kind == "reader" else 0):
                message = random_words(chance, own.q, own.m, code[3])
                drawn = random_words(chance, own.q, own.m, len(code[2]) - code[3])
                wrong = tuple(zip(lot, random_words(chance, own.q, own.m, 1)))
                heard = own_heard(own, net, code, sink, (), (message, drawn, wrong))
                self.assertEqual(read_by(net, code, sink, answer[0], heard), message)
                read += 1
        self.assertGreater(read, 20)

    def test_wrong_arguments(self):
        reader, words = (((1, 0), (0, 1)),), ((1, 1), (0, 1))
        check_parameters(self, read_by, [TWIN, DRAWN, 5, reader, words], [
            (errors.InvalidNet, wrong_nets()), (errors.InvalidCode, wrong_codes(TWIN, DRAWN)[::3]),
            (errors.InvalidNumber, wrong_points(TWIN)),
            (errors.InvalidMatrix, [
                *junk(), 0, (), *spoiled(reader), reader * 2, reader[0], ((reader[0][0],),), ((*reader[0], (0, 0)),),
                (((2, 0), (0, 1)),), (((1,), (0,)),), ("reader", reader), ((),),
            ]),
            (errors.InvalidWord, [
                *junk(), 0, (), *spoiled(words), words[:1], (*words, (0, 0)), ((2, 0), (0, 1)), ((1,), (0,)), (words,), reader,
            ]),
        ])


class AllChoices(unittest.TestCase):
    def check(self, net, code, sink, t, s):
        due = all(has_reader(net, code, sink, silent, lot) for silent, lot in choices(net, t, s))
        answer = telling(net, code, sink, t, s)
        self.assertEqual(answer[0], "tells" if due else "two")
        self.assertIs(does_tell(net, code, sink, t, s), due)
        self.assertIs(is_telling(net, code, sink, t, s, answer), True)
        if due:
            self.check_readers(net, code, sink, t, s, answer)
        else:
            self.check_two(net, code, sink, t, s, answer)
        return answer

    def check_readers(self, net, code, sink, t, s, answer):
        self.assertEqual(len(answer), 2)
        told_choices = list(choices(net, t, s))
        self.assertEqual(len(answer[1]), len(told_choices))
        for (silent, lot), reader in zip(told_choices, answer[1]):
            self.assertTrue(is_own_reader(net, code, sink, silent, lot, reader))
            self.assertIs(is_reader_or_mixed(net, code, sink, silent, lot, ("reader", reader)), True)

    def check_two(self, net, code, sink, t, s, answer):
        own = own_of(code)
        _, silent, one, other = answer
        self.assertEqual(len(answer), 4)
        self.assertLessEqual(len(silent), s)
        for sending in (one, other):
            message, drawn, wrong = sending
            self.assertEqual([len(message), len(drawn)], [code[3], len(code[2]) - code[3]])
            self.assertLessEqual(len(wrong), t)
            self.assertTrue(all(link not in silent and word != own.zero for link, word in wrong))
            self.assertEqual(list(wrong), sorted(dict(wrong).items()))
        self.assertNotEqual(one[0], other[0])
        self.assertEqual(own_heard(own, net, code, sink, silent, one), own_heard(own, net, code, sink, silent, other))

    def test_which_answer_is_due(self):
        seen = set()
        for net, code, sink in questions(120, 8):
            for t, s in ((0, 0), (1, 0), (0, 1), (1, 1), (0, 2)):
                seen.add((self.check(net, code, sink, t, s)[0], t, s))
        self.assertTrue({("tells", 0, 0), ("two", 0, 0), ("two", 1, 0), ("two", 0, 1), ("two", 1, 1)} <= seen)

    def test_codes_that_bring_much(self):
        chance, seen = random.Random(121), set()
        for net, sink in ((WIDE, 1), (Net(2, ((0, 1),) * 7), 1), (LINE, 2), (TWIN, 4), (TWIN, 5)):
            for q, m, n, many, messages in ((2, 3, 3, 1, 1), (5, 2, 3, 2, 1), (7, 1, 2, 1, 1), (13, 2, 1, 1, 1), (2, 6, 4, 2, 2)):
                code = random_code(chance, net, q, m, n, many, messages)
                for t, s in ((0, 0), (1, 0), (0, 1), (1, 1), (2, 0), (0, 2), (2, 1), (0, 3)):
                    seen.add((self.check(net, code, sink, t, s)[0], t, s))
        self.assertEqual(len(seen), 16)

    def test_all_sendings_of_small_fields(self):
        chance, seen = random.Random(122), set()
        small = Net(3, ((0, 1), (0, 2), (1, 2), (1, 2)))
        for net, sink, many in ((THREE, 1, 2), (small, 2, 1), (small, 2, 2), (small, 1, 1), (Net(3, ((0, 1), (1, 2))), 2, 1)):
            for q, n in ((2, 1), (2, 2), (3, 1), (3, 2)):
                for messages in range(1, many + 1):
                    for _ in range(2):
                        code = random_code(chance, net, q, 1, n, many, messages)
                        for t, s in ((0, 0), (1, 0), (0, 1), (1, 1), (0, 2)):
                            right = tells_by_all_sendings(own_of(code), net, code, sink, t, s)
                            self.assertIs(does_tell(net, code, sink, t, s), right)
                            self.assertEqual(telling(net, code, sink, t, s)[0], "tells" if right else "two")
                            seen.add((right, t, s))
        self.assertEqual({entry[0] for entry in seen}, {True, False})
        for t, s, right in ((1, 0, True), (0, 2, True), (1, 1, False), (0, 3, False), (2, 0, False)):
            self.assertIs(tells_by_all_sendings(own_field(2, 1), THREE, SAID, 1, t, s), right)
            self.assertIs(does_tell(THREE, SAID, 1, t, s), right)

    def test_readers_in_another_sequence(self):
        kind, readers = telling(THREE, SAID, 1, 1, 0)
        self.assertEqual((kind, len(readers)), ("tells", 3))
        for some in itertools.permutations(readers):
            self.assertIs(is_telling(THREE, SAID, 1, 1, 0, ("tells", some)), some == readers)
        kind, readers = telling(THREE, SAID, 1, 0, 2)
        self.assertEqual(readers, ((((0,), (0,), (1,)),), (((0,), (1,), (0,)),), (((1,), (0,), (0,)),)))
        for some in itertools.product(*[subsets_of_words()] * 3):
            right = all(is_own_reader(THREE, SAID, 1, *choice, reader) for choice, reader in zip(choices(THREE, 0, 2), some))
            self.assertIs(is_telling(THREE, SAID, 1, 0, 2, ("tells", some)), right)

    def test_all_sendings_judged(self):
        own, seen = own_field(2, 1), set()
        for t, s in ((1, 0), (1, 1), (0, 2), (0, 3)):
            for silent in subsets(range(3)):
                sendings = list(own_sendings(own, THREE, SAID, (), 2))
                for one, other in itertools.product(sendings, repeat=2):
                    fits = len(silent) <= s and one[0] != other[0] and max(len(one[2]), len(other[2])) <= t
                    fits = fits and not any(link in silent for link, _ in one[2] + other[2])
                    fits = fits and (
                        own_heard(own, THREE, SAID, 1, silent, one) == own_heard(own, THREE, SAID, 1, silent, other)
                    )
                    self.assertIs(is_telling(THREE, SAID, 1, t, s, ("two", silent, one, other)), fits)
                    seen.add((t, s, fits))
        self.assertEqual(seen, {(1, 0, False), (1, 1, False), (1, 1, True), (0, 2, False), (0, 3, False), (0, 3, True)})

    def test_zero_words_and_fewer_links_than_are_let(self):
        one, other = (((1,),), (), ((0, (1,)), (2, (0,)))), (((0,),), (), ((0, (0,)), (1, (1,)), (2, (1,))))
        for t in range(7):
            self.assertIs(is_telling(THREE, SAID, 1, t, 0, ("two", (), one, other)), t >= 3)
        other = (((0,),), (), ((1, (1,)), (2, (1,))))
        for t in range(7):
            self.assertIs(is_telling(THREE, SAID, 1, t, 3, ("two", (), one, other)), t >= 2)
        one, other = (((1,),), (), ()), (((0,),), (), ((2, (1,)),))
        for t, s in itertools.product(range(7), repeat=2):
            self.assertIs(is_telling(THREE, SAID, 1, t, s, ("two", (0, 1), one, other)), t >= 1 and s >= 2)
            self.assertIs(is_telling(THREE, SAID, 1, t, s, ("two", (0, 1, 2), one[:2] + ((),), (((0,),), (), ()))), s >= 3)

    def test_lots_greater_than_the_net(self):
        for net, code, sink in questions(123, 6):
            for t, s in ((6, 0), (0, 6), (6, 6), (3, 4)):
                if len(net.links) <= 6:
                    self.check(net, code, sink, t, s)
        self.assertEqual(telling(BARE, (Field(2, 1), (), (((1,),),), 1), 1, 3, 3)[0], "two")
        self.assertEqual(telling(THREE, SAID, 1, 0, 5)[1], (0, 1, 2))

    def test_values_of_any_kind(self):
        arguments = [THREE, SAID, 1, 1, 0]
        readers = telling(*arguments)[1]
        self.assertIs(is_telling(*arguments, ("tells", readers)), True)
        values = [
            *pairs_of("tells", "two"), *[("tells", value) for value in spoiled(readers)], readers, ["tells", readers],
            ("tells", readers[:2]), ("tells", (*readers, readers[0])), ("tells", readers, ()), ("Tells", readers), ("tells", ()),
            ("tells", (readers[0], readers[1], None)), ("tells", (readers[0], readers[1], readers)), ("reader", readers),
            ("tells", (None, None, None)), ("tells", (readers[0], readers[1], (((1,), (1,), (1,)),))),
        ]
        check_judge(self, is_telling, arguments, values)
        one, other = (((1,),), (), ((0, (1,)),)), (((0,),), (), ((1, (1,)),))
        arguments, right = [THREE, SAID, 1, 1, 1], ("two", (2,), one, other)
        self.assertIs(is_telling(*arguments, right), True)
        values = [
            *spoiled(right), right[1:], right[:3], (*right, ()), list(right), ("tells", *right[1:]), ("two", (), one, other),
            ("two", (2,), one, one), ("two", (0,), one, other), ("two", (1, 2), one, other), ("two", (3,), one, other),
            ("two", (2,), one[:2], other), ("two", (2,), (*one, ()), other), ("two", (2,), ((), ((1,),), one[2]), other),
            ("two", (2,), (((1,),), ((0,),), one[2]), other), ("two", (2,), (((2,),), (), one[2]), other),
            ("two", (2,), (((1,),), (), ((0, (1,)), (1, (0,)))), other), ("two", (2,), (((1,),), (), ((2, (0,)),)), other),
            ("two", (2,), (((1,),), (), ((3, (1,)),)), other), ("two", (2,), one, (((0,),), (), ((1, (0,)),))),
            ("two", (2,), one, (((0,),), (), ((2, (1,)),))), ("two", (2,), one, (((0,),), (), ())),
        ]
        check_judge(self, is_telling, arguments, values)

    def test_wrong_arguments(self):
        wrong = [
            (errors.InvalidNet, wrong_nets()), (errors.InvalidCode, wrong_codes(TWIN, DRAWN)[::3]),
            (errors.InvalidNumber, wrong_points(TWIN)), (errors.InvalidNumber, wrong_numbers(6)),
            (errors.InvalidNumber, wrong_numbers(6)),
        ]
        for function in (telling, does_tell):
            check_parameters(self, function, [TWIN, DRAWN, 5, 1, 0], wrong)
        check_parameters(self, is_telling, [TWIN, DRAWN, 5, 1, 0, 0], [*wrong, None])
        check_parameters(self, most_wrong, [TWIN, DRAWN, 5, 0], wrong[:4])


def subsets_of_words():
    """All readers for one message word and three links over the field of 2."""
    return [(tuple((number,) for number in numbers),) for numbers in itertools.product(range(2), repeat=3)]


class MostWrong(unittest.TestCase):
    def test_by_all_choices(self):
        seen = set()
        for net, code, sink in questions(124, 7):
            for s in (0, 1, 2):
                right = None
                for t in range(7):
                    if not all(has_reader(net, code, sink, silent, lot) for silent, lot in choices(net, t, s)):
                        break
                    right = t
                self.assertEqual(most_wrong(net, code, sink, s), right)
                seen.add(right)
        self.assertTrue({None, 0} <= seen)

    def test_none_up_to_six(self):
        for many in (1, 2, 3, 4, 6, 7, 8, 12, 13, 14):
            net = Net(2, ((0, 1),) * many)
            code = (Field(2, 1), ((1,),) * many, (((1,),),), 1)
            for s in range(7):
                if many < 9 or s == 0:
                    right = min((many - s - 1) // 2, 6) if many > s else None
                    self.assertEqual(most_wrong(net, code, 1, s), right, (many, s))

    def test_as_many_rows_as_words_that_are_heard(self):
        # The drawn word hides the message from the sink, too.
        code = (Field(3, 1), ((1,), (1,), (1,)), (((1,),), ((2,),)), 1)
        self.assertIsNone(most_wrong(THREE, code, 1, 0))


class TooManyChoices(unittest.TestCase):
    def net_and_code(self, many, field=Field(2, 1)):
        # All words are wrong at once: so the first choice that has a silent or wrong link is mixed.
        net = Net(3, ((0, 1),) + ((0, 2),) * (many - 1))
        return net, (field, ((1,),) * many, ((field.one,),), 1)

    def test_bounds(self):
        for many in (11, 12, 13, 14, 17, 18, 19, 20):
            net, code = self.net_and_code(many)
            for t, s in itertools.product(range(7), repeat=2):
                silent = min(s, many)
                more = min(2 * t, many - silent)
                number = math.comb(many, silent) * math.comb(many - silent, more)
                if number > 20000:
                    for function, further in ((telling, []), (does_tell, []), (is_telling, [0]), (is_telling, [("tells", ())])):
                        with self.assertRaises(errors.TooMany) as caught:
                            function(net, code, 1, t, s, *further)
                        self.assertEqual(caught.exception.limit, 20000)
                else:
                    # At point 1 one link comes in: it may be among those that are bent.
                    self.assertIs(is_telling(net, code, 1, t, s, ("tells", ())), False)
                    self.assertIs(does_tell(net, code, 1, t, s), (t, s) == (0, 0))

    def test_behind_all_other_errors(self):
        net, code = self.net_and_code(20)
        told(self, telling, [net, code, 1, 3, 0], errors.TooMany)
        told(self, telling, [net, code, 0, 3, 0], errors.InvalidNumber, [0])
        told(self, telling, [net, code, 1, 3, 7], errors.InvalidNumber, [7])
        told(self, telling, [net, SAID, 1, 3, 0], errors.InvalidCode)
        told(self, is_telling, [net, code, 1, 3, True, 0], errors.InvalidNumber, [True])

    def test_most_wrong_looks_as_far_as_it_has_to(self):
        net, code = self.net_and_code(20)
        self.assertEqual(most_wrong(net, code, 1, 0), 0)
        told(self, most_wrong, [net, code, 1, 6], errors.TooMany)
        wide = Net(2, ((0, 1),) * 20)
        said = (Field(2, 1), ((1,),) * 20, (((1,),),), 1)
        told(self, most_wrong, [wide, said, 1, 0], errors.TooMany)
        self.assertIs(does_tell(wide, said, 1, 2, 0), True)

    def test_just_as_many_as_are_let(self):
        net, code = Net(2, ((0, 1),) * 14), (Field(2, 1), ((1,),) * 14, (((1,),),), 1)
        told(self, does_tell, [net, code, 1, 1, 3], errors.TooMany)
        net, code = Net(2, ((0, 1),) * 17), (Field(2, 1), ((1,),) * 17, (((1,),),), 1)
        kind, readers = telling(net, code, 1, 5, 0)
        self.assertEqual((kind, len(readers)), ("tells", 19448))
        self.assertIs(is_telling(net, code, 1, 5, 0, (kind, readers)), True)
        spoilt = (*readers[:-1], (((1,),) * 17,))
        self.assertIs(is_telling(net, code, 1, 5, 0, (kind, spoilt)), False)


class NoneIsTrue(unittest.TestCase):
    """[11.5], and [0.18] as far as it reaches here."""

    def test_one_reader_does_not_do_for_all_choices(self):
        readers = telling(THREE, SAID, 1, 1, 0)[1]
        self.assertEqual(len(set(readers)), 3)
        for reader in subsets_of_words():
            self.assertIs(is_telling(THREE, SAID, 1, 1, 0, ("tells", (reader,) * 3)), False)

    def test_what_is_told_with_1_0_is_not_told_with_0_3(self):
        self.assertIs(does_tell(THREE, SAID, 1, 1, 0), True)
        self.assertIs(does_tell(THREE, SAID, 1, 0, 3), False)

    def test_points_behind_are_not_told(self):
        net = Net(3, ((0, 1), (1, 2)))
        code = (Field(2, 1), ((1,), (0,)), (((1,),),), 1)
        self.assertEqual([does_tell(net, code, 1, 0, 0), does_tell(net, code, 2, 0, 0)], [True, False])

    def test_silence_of_a_link_can_help(self):
        # The two links into point 2 bring opposite words unless one of both is silent.
        net = Net(3, ((0, 1), (0, 1), (1, 2)))
        code = (Field(3, 1), ((1,), (2,), (1, 1)), (((1,),),), 1)
        self.assertEqual(reader_or_mixed(net, code, 2, (1,), ())[0], "reader")
        self.assertEqual(reader_or_mixed(net, code, 2, (), ())[0], "mixed")

    def test_told_with_two_silent_links_and_not_with_a_wrong_one(self):
        # The first link carries nothing, but what is added there is heard on all links into the sink.
        net = Net(3, ((0, 1),) * 4 + ((1, 2),) * 3)
        mixing = ((0,), (1,), (1,), (1,), (1, 1, 0, 0), (1, 0, 1, 0), (1, 0, 0, 1))
        code = (Field(2, 1), mixing, (((1,),),), 1)
        self.assertEqual([does_tell(net, code, 2, 0, 2), does_tell(net, code, 2, 1, 0)], [True, False])
