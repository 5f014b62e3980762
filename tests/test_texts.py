"""Stage 18: texts of nets, codes and bent links."""

import random
import re
import unittest

from rowsthrough import errors
from rowsthrough.base import fields
from rowsthrough.base.fields import Field
from rowsthrough.bent.telling import is_code
from rowsthrough.net import nets
from rowsthrough.net.nets import Net
from rowsthrough.texts import texts
from rowsthrough.texts.texts import MOST_TEXT, read_bent, read_code, read_net, text_of_bent, text_of_code, text_of_net
from tests.helper import (
    check_parameters, drawn_nets, junk, own_into, random_code, random_net, random_words, run_examples, told, without,
    wrong_codes, wrong_fields, wrong_lots, wrong_nets, wrong_sinks, wrong_wrongs,
)

EXAMPLES = r"""
>>> TWO, SHARED = Net(2, ((0, 1), (0, 1))), (Field(2, 2), ((1, 0), (0, 1)), (((1, 0), (0, 0)), ((1, 0), (1, 0))), 1)
>>> [text_of_net(TWO, (1,)), text_of_code(TWO, SHARED), text_of_bent(TWO, Field(2, 2), ((1, (1, 1)),), (0,))]
['net 2\nlink 0 1\nlink 0 1\nsinks 1\n', 'code 2 2 2 1\nmix 1 0\nmix 0 1\nrow 1.0 0.0\nrow 1.0 1.0\n', 'wrong 1 1.1\nsilent 0\n']
>>> [read_net("net 3\nsinks 1 2\n") == (Net(3, ()), (1, 2)), read_code(TWO, text_of_code(TWO, SHARED)) == SHARED, read_bent(TWO, Field(2, 2), "")]
[True, True, ((), ())]
>>> read_net("net 3\nlink 1 1\nsinks 1\n")
raises ParseError(1)
"""

NUMBER = "(?:0|[1-9][0-9]{0,79})"
LINE = Net(3, ((0, 1), (0, 1), (1, 2), (1, 2)))
DEEP = Net(5, ((0, 1), (0, 1), (1, 2), (1, 4), (2, 4), (3, 4)))
DEEP_CODE = (Field(2, 2), ((1, 0), (0, 1), (1, 1), (0, 1), (1,), ()), (((1, 0), (0, 1)), ((0, 0), (1, 0))), 2)
FULL = Net(2, ((0, 1),) * 20)
BARE = Net(4, ())


def lines_of(text):
    """The lines that end with a newline, and what is left."""
    *lines, rest = text.split("\n")
    return lines, rest


def told_numbers(line, kind):
    """The numbers of a line of this kind, None if it is none."""
    if not re.fullmatch(f"{kind}(?: {NUMBER})*", line):
        return None
    return [int(word) for word in line.split(" ")[1:]]


def told_word(field, text):
    if not re.fullmatch(f"{NUMBER}(?:[.]{NUMBER})*", text):
        return None
    word = [int(digit) for digit in text.split(".")]
    return word if len(word) == field.m and max(word) < field.q else None


def net_spot(text):
    """The line that is told for what is no text of a net, None if it is one."""
    lines, rest = lines_of(text)
    points, links, done = 0, [], False
    for index, line in enumerate(lines):
        first, link, sinks = [told_numbers(line, kind) for kind in ("net", "link", "sinks")]
        if index == 0:
            stands = first is not None and len(first) == 1 and 2 <= first[0] <= 10
            points = first[0] if stands else 0
        elif done:
            stands = False
        elif link is not None:
            stands = len(link) == 2 and link[0] < link[1] < points and len(links) < 20 and (not links or links[-1] <= link)
            links.append(link)
        else:
            stands = sinks is not None and 1 <= len(sinks) <= 6 and sinks == sorted(set(sinks)) and sinks[0] > 0 and sinks[-1] < points
            done = True
        if not stands:
            return index
    return None if done and not rest else len(lines)


def code_spot(net, text):
    lines, rest = lines_of(text)
    field, n, r, rows = None, 0, 0, 0
    for index, line in enumerate(lines):
        if index == 0:
            numbers = told_numbers(line, "code")
            stands = numbers is not None and len(numbers) == 4 and numbers[0] in (2, 3, 5, 7, 11, 13) and 1 <= numbers[1] <= 6
            stands = stands and 1 <= numbers[2] <= 6 and 1 <= numbers[3] <= 12
            if stands:
                field, n, r = Field(*numbers[:2]), numbers[2], numbers[3]
        elif index <= len(net.links):
            tail, numbers = net.links[index - 1][0], told_numbers(line, "mix")
            stands = numbers is not None and len(numbers) == (len(own_into(net, tail)) if tail else n) and all(one < field.q for one in numbers)
        else:
            words = line.split(" ")
            rows += 1
            stands = words[0] == "row" and len(words) == n + 1 and rows <= 12 and all(told_word(field, word) for word in words[1:])
        if not stands:
            return index
    return None if field and rows >= r and not rest else len(lines)


def bent_spot(net, field, text):
    lines, rest = lines_of(text)
    wrong, silent = [], []
    for index, line in enumerate(lines):
        words = line.split(" ")
        link = int(words[1]) if len(words) > 1 and re.fullmatch(NUMBER, words[1]) else 99
        if words[0] == "wrong" and len(words) == 3:
            stands = told_word(field, words[2]) is not None and not silent and link > max(wrong, default=-1)
            wrong.append(link)
        else:
            stands = words[0] == "silent" and len(words) == 2 and link > max(silent, default=-1) and link not in wrong
            silent.append(link)
        if not stands or link >= len(net.links):
            return index
    return len(lines) if rest else None


def bent_texts(chance, text):
    """Texts with one line bent in each way, cut anywhere, with a line too many."""
    lines = text.split("\n")[:-1]

    def whole(some):
        return "".join(line + "\n" for line in some)

    yield from ("", "\n", text + "\n", "\n" + text, text[:-1], text + "x", text + " ", text + text, text * 3)
    for index, line in enumerate(lines):
        before, after = lines[:index], lines[index + 1:]
        words = line.split(" ")
        bent = [
            line + " ", " " + line, line.replace(" ", "  ", 1), line.replace(" ", "", 1), "", line.upper(),
            line + " 0", line + " 1",
        ]
        for place in range(len(words)):
            other = [
                "0" + words[place], "+" + words[place], "-" + words[place], words[place] + "0", "1" + words[place],
                "x", words[place] + ".0", "0",
                str(chance.randrange(25)), words[place].replace(".", " "), words[place].replace(".", ","),
                words[place] + ".", "." + words[place],
                "9" * 70,
            ]
            bent += [" ".join([
                *words[:place], word, *words[place + 1:],
            ]) for word in (chance.sample(other, 6) if len(lines) > 8 else other)]
            bent.append(" ".join([*words[:place], *words[place + 1:]]))
        if len(words) > 2:
            bent.append(" ".join([words[0], words[2], words[1], *words[3:]]))
        for other in bent:
            yield whole([*before, other, *after])
        yield from (
            whole([*before, line, line, *after]), whole([*before, *after]), whole(lines[:index]),
            whole(lines[:index]) + line,
        )
        yield whole([*before, chance.choice(lines), line, *after])
        if after:
            yield whole([*before, after[0], line, *after[1:]])
        for place in {0, 1, len(line) // 2, len(line) - 1}:
            yield whole(before) + line[:place]
            yield whole(before) + line[:place] + "\n" + line[place:] + "\n" + whole(after)


def wrong_texts():
    return [
        *without(junk(), str), 0, 1, (), ("net 2",), ["net 2\n"], "net 2\r\n", "net\t2\n", "\x00", "\x7f",
        "net 2\n" * 20_000, " " * 100_001, "\n" * 400_000,
        "\x1f", "net 2\n\r",
    ]


class Examples(unittest.TestCase):
    def test_examples(self):
        run_examples(self, EXAMPLES, {**vars(nets), **vars(fields), **vars(texts)})

    def test_constant(self):
        self.assertEqual(MOST_TEXT, 100000)


class Checked(unittest.TestCase):
    def spot(self, function, arguments, spot):
        """The text is read, or the line is told."""
        if spot is None:
            return function(*arguments)
        with self.assertRaises(errors.ParseError, msg=arguments[-1]) as caught:
            function(*arguments)
        self.assertEqual((type(caught.exception.spot), caught.exception.spot), (int, spot), arguments[-1])
        return None


class Nets(Checked):
    def questions(self, seed, most=20):
        chance = random.Random(seed)
        full = Net(10, tuple(sorted(random_net(chance, 10, 20).links)))
        for net in (LINE, FULL, BARE, Net(10, ()), full, Net(2, ()), *drawn_nets(seed, most)):
            many = chance.randrange(1, min(6, net.points - 1) + 1)
            yield net, tuple(sorted(chance.sample(range(1, net.points), many)))

    def test_own_lines_and_back(self):
        counts = set()
        for net, sinks in self.questions(241):
            lines = [
                f"net {net.points}", *[f"link {tail} {head}" for tail, head in net.links],
                "sinks " + " ".join(map(str, sinks)),
            ]
            text = text_of_net(net, sinks)
            self.assertEqual(text, "".join(line + "\n" for line in lines))
            self.assertEqual(read_net(text), (net, sinks))
            counts.add((len(net.links), len(sinks)))
        self.assertEqual({many for many, _ in counts} & {0, 4, 20}, {0, 4, 20})
        self.assertTrue({1, 2, 3, 4} <= {many for _, many in counts})

    def test_the_line_that_is_told(self):
        seen, chance = set(), random.Random(242)
        for net, sinks in self.questions(243, 8):
            text = text_of_net(net, sinks)
            for bent in bent_texts(chance, text):
                spot = net_spot(bent)
                found = self.spot(read_net, [bent], spot)
                if found is not None:
                    self.assertEqual(text_of_net(*found), bent)
                seen.add(spot if spot is None else (min(spot, 3), spot == bent.count("\n")))
        self.assertTrue({None, (0, False), (0, True), (1, False), (1, True), (3, True), (3, False)} <= seen)

    def test_told_ones(self):
        for text, spot in (
            ("", 0), ("net 1\n", 0), ("net 11\nsinks 1\n", 0), ("net 02\nsinks 1\n", 0), ("net 2\n", 1),
            ("net 2\nsinks 2\n", 1), ("net 2\nsinks 0\n", 1),
            ("net 2\nsinks\n", 1), ("net 2\nsinks 1", 1), ("net 2\nsinks 1\n\n", 2),
            ("net 2\nsinks 1\nlink 0 1\n", 2), ("net 2\nlink 0 2\nsinks 7\n", 1),
            ("net 3\nlink 1 2\nlink 0 1\nsinks 1\n", 2), ("net 3\nlink 1 0\n", 1), ("net 3\nsinks 2 1\n", 1),
            ("net 3\nsinks 1 1\n", 1), ("net 2", 0),
            ("net 2\nlink 0 1\n" + "link 0 1\n" * 19 + "sinks 1\n", None),
            ("net 2\n" + "link 0 1\n" * 21 + "sinks 9\n", 21), ("net 3\nnet 3\nsinks 1\n", 1),
            ("link 0 1\nsinks 1\n", 0), ("net 10\nsinks 1 2 3 4 5 6\n", None), ("net 10\nsinks 1 2 3 4 5 6 7\n", 1),
            ("net 2\nsinks 1\nx", 2),
            ("net 3 \nsinks 1\n", 0), ("net 2\nlink 0  1\nsinks 1\n", 1), ("net 2\nlink 0 1 \n", 1),
            ("net 2\nlink 0 1\n", 2), ("net 2\n\nsinks 1\n", 1),
            ("net " + "9" * 5000 + "\n", 0), ("net +2\n", 0), ("Net 2\n", 0), ("net 2\nlink 0 -1\n", 1),
            ("net 2\nwrong 0\n", 1), ("net 2.0\n", 0),
        ):
            self.spot(read_net, [text], spot)
            self.assertEqual(net_spot(text), spot)

    def test_wrong_arguments(self):
        check_parameters(
            self, text_of_net, [DEEP, (2, 4)],
            [(errors.InvalidNet, wrong_nets()), (errors.InvalidPoints, wrong_sinks(DEEP, (2, 4)))],
        )
        check_parameters(self, read_net, [text_of_net(DEEP, (2, 4))], [(errors.InvalidText, wrong_texts())])
        self.spot(read_net, ["x" * 100_000], 0)
        self.spot(read_net, [" ~!" + "\n" * 99_997], 0)
        told(self, read_net, ["x" * 100_001], errors.InvalidText)
        told(self, read_net, ["net 3\nsinks 1 2\n\t"], errors.InvalidText)


class Codes(Checked):
    def questions(self, seed, most=20):
        chance = random.Random(seed)
        for net in (LINE, DEEP, FULL, BARE, *drawn_nets(seed, most)):
            for q, m in ((2, 1), (3, 2), (13, 6)):
                many = chance.choice((1, 12, chance.randrange(1, 13)))
                yield net, random_code(chance, net, q, m, chance.randrange(1, 7), many, chance.randrange(1, many + 1))

    def test_own_lines_and_back(self):
        counts, nothing = set(), 0
        for net, code in self.questions(244):
            field, mixing, rows, r = code
            lines = [
                f"code {field.q} {field.m} {len(rows[0])} {r}",
                *[" ".join(["mix", *map(str, numbers)]) for numbers in mixing],
            ]
            lines += [" ".join(["row", *[".".join(map(str, word)) for word in row]]) for row in rows]
            text = text_of_code(net, code)
            self.assertEqual(text, "".join(line + "\n" for line in lines))
            self.assertEqual(read_code(net, text), code)
            self.assertIs(is_code(net, read_code(net, text)), True)
            counts.add(len(rows))
            nothing += "mix" in lines
        self.assertTrue({1, 12} <= counts)
        self.assertGreater(nothing, 3)

    def test_the_line_that_is_told(self):
        seen, chance = set(), random.Random(245)
        for net, code in self.questions(246, 6):
            if len(code[2]) > 5 or len(net.links) > 8:
                continue
            text = text_of_code(net, code)
            for bent in bent_texts(chance, text):
                spot = code_spot(net, bent)
                found = self.spot(read_code, [net, bent], spot)
                if found is not None:
                    self.assertEqual(text_of_code(net, found), bent)
                seen.add(spot if spot is None else (min(spot, 3), spot == bent.count("\n")))
        self.assertTrue({None, (0, False), (0, True), (1, False), (1, True), (3, True), (3, False)} <= seen)

    def test_told_ones(self):
        head, mixes, row = "code 2 2 2 1\n", "mix 1 0\nmix 0 1\nmix 1 1\nmix 0 1\nmix 1\nmix\n", "row 1.0 0.1\n"
        for text, spot in (
            (head + mixes + row, None), (head + mixes + row * 12, None), (head + mixes + row * 13, 19),
            (head + mixes, 7), (head + mixes + row[:-1], 7),
            (head, 1), (head + "mix 1 0", 1), ("code 2 2 2 2\n" + mixes + row, 8),
            ("code 2 2 2 2\n" + mixes + row * 2, None), ("code 2 2 2 12\n" + mixes + row * 11, 18),
            ("code 2 2 2 13\n" + mixes + row * 13, 0), ("code 2 2 2 0\n" + mixes + row, 0), ("code 4 2 2 1\n", 0),
            ("code 2 0 2 1\n", 0), ("code 2 7 2 1\n", 0),
            ("code 2 2 0 1\n", 0), ("code 2 2 7 1\n", 0), ("code 2 2 2\n", 0), ("code 2 2 2 1 1\n", 0),
            (head + "mix 1 0 0\n", 1), (head + "mix 1\n", 1),
            (head + "mix 1 2\n", 1), (head + mixes[:-1] + " 0\n" + row, 6), (head + mixes[:-1] + " \n" + row, 6),
            (head + mixes + "mix 1\n", 7), (head + row, 1),
            (head + mixes + "row 1.0\n", 7), (head + mixes + "row 1.0 0.1 0.0\n", 7),
            (head + mixes + "row 1.0 0.2\n", 7), (head + mixes + "row 1.0 0\n", 7),
            (head + mixes + "row 1.0 0.1.0\n", 7), (head + mixes + "row 1.0 0,1\n", 7),
            (head + mixes + "row 1.0 0.01\n", 7), (head + mixes + "row 1.0 .1\n", 7),
            (head + mixes + row + "\n", 8), (head + mixes + row + "row", 8), ("mix 1 0\n", 0), ("", 0),
        ):
            self.spot(read_code, [DEEP, text], spot)
            self.assertEqual(code_spot(DEEP, text), spot)
        self.assertEqual(read_code(BARE, "code 3 1 1 1\nrow 2\n"), (Field(3, 1), (), (((2,),),), 1))

    def test_wrong_arguments(self):
        nets_wrong = (errors.InvalidNet, wrong_nets())
        check_parameters(
            self, text_of_code, [DEEP, DEEP_CODE], [nets_wrong, (errors.InvalidCode, wrong_codes(DEEP, DEEP_CODE))],
        )
        check_parameters(
            self, read_code, [DEEP, text_of_code(DEEP, DEEP_CODE)], [nets_wrong, (errors.InvalidText, wrong_texts())],
        )


class BentLinks(Checked):
    def questions(self, seed, most=20):
        chance = random.Random(seed)
        for net in (LINE, DEEP, FULL, BARE, *drawn_nets(seed, most)):
            for q, m in ((2, 1), (3, 2), (13, 6)):
                many = len(net.links)
                links = chance.sample(range(many), chance.randrange(many + 1))
                number = chance.randrange(len(links) + 1)
                wrong = tuple((link, random_words(chance, q, m, 1)[0]) for link in sorted(links[:number]))
                yield net, Field(q, m), wrong, tuple(sorted(links[number:]))

    def test_own_lines_and_back(self):
        seen = set()
        for net, field, wrong, silent in self.questions(247):
            lines = [f"wrong {link} " + ".".join(map(str, word)) for link, word in wrong] + [f"silent {link}" for link in silent]
            text = text_of_bent(net, field, wrong, silent)
            self.assertEqual(text, "".join(line + "\n" for line in lines))
            self.assertEqual(read_bent(net, field, text), (wrong, silent))
            seen.add((bool(wrong), bool(silent)))
        self.assertEqual(len(seen), 4)

    def test_the_line_that_is_told(self):
        seen, chance = set(), random.Random(248)
        for net, field, wrong, silent in self.questions(249, 9):
            text = text_of_bent(net, field, wrong, silent)
            if text.count("\n") > 8:
                continue
            for bent in bent_texts(chance, text):
                spot = bent_spot(net, field, bent)
                found = self.spot(read_bent, [net, field, bent], spot)
                if found is not None:
                    self.assertEqual(text_of_bent(net, field, *found), bent)
                seen.add(spot if spot is None else (min(spot, 3), spot == bent.count("\n")))
        self.assertTrue({None, (0, False), (0, True), (1, False), (1, True), (3, True), (3, False)} <= seen)

    def test_told_ones(self):
        field = Field(2, 2)
        for text, spot in (
            ("", None), ("\n", 0), (" ", 0), ("wrong 0 1.1\n", None), ("wrong 4 1.1\n", 0), ("wrong 0 1\n", 0),
            ("wrong 0 1.2\n", 0), ("wrong 0\n", 0), ("silent 4\n", 0),
            ("silent 3\nsilent 3\n", 1), ("silent 3\nsilent 1\n", 1), ("wrong 1 0.0\nwrong 1 0.0\n", 1),
            ("wrong 1 0.0\nwrong 0 0.0\n", 1), ("silent 0\nwrong 1 0.0\n", 1),
            ("wrong 1 0.0\nsilent 1\n", 1), ("wrong 1 0.0\nsilent 0\nsilent 1\n", 2),
            ("wrong 0 0.0\nwrong 3 1.0\nsilent 1\nsilent 2\n", None), ("silent 0", 0),
            ("silent 0\nsilent 1", 1), ("silent 00\n", 0), ("silent -1\n", 0), ("silent 0 \n", 0),
            ("silent 0 1\n", 0), ("wrong 0 1.1 0\n", 0), ("wrong 0 01.1\n", 0),
            ("wrong  0 1.1\n", 0), ("mute 0\n", 0), ("silent\n", 0), ("wrong\n", 0), ("silent 0\n\n", 1),
            ("wrong 0 1.1", 0),
        ):
            self.spot(read_bent, [LINE, field, text], spot)
            self.assertEqual(bent_spot(LINE, field, text), spot)

    def test_wrong_arguments(self):
        field, wrong, silent = Field(2, 2), ((1, (1, 1)), (2, (0, 1))), (0, 3)
        begun = [(errors.InvalidNet, wrong_nets()), (errors.InvalidField, wrong_fields())]
        check_parameters(self, text_of_bent, [LINE, field, wrong, silent], [
            *begun, (errors.InvalidLinks, wrong_wrongs(LINE, field, wrong)),
            (errors.InvalidLinks, wrong_lots(LINE, silent)),
        ])
        check_parameters(
            self, read_bent, [LINE, field, text_of_bent(LINE, field, wrong, silent)],
            [*begun, (errors.InvalidText, wrong_texts())],
        )
        told(self, text_of_bent, [LINE, field, wrong, (0, 1)], errors.InvalidOperation)
        told(self, text_of_bent, [LINE, field, wrong, (1, 4)], errors.InvalidLinks)


class NoneIsTrue(unittest.TestCase):
    """[18.6]"""

    def test_unlike_nets_with_the_same_lines_for_links(self):
        one, other = Net(3, ((0, 1),)), Net(4, ((0, 1),))
        self.assertNotEqual(one, other)
        self.assertEqual([text_of_net(net, (1,)).split("\n")[1:] for net in (one, other)], [["link 0 1", "sinks 1", ""]] * 2)

    def test_one_text_of_codes_for_two_nets(self):
        code = (Field(2, 1), ((1,),), (((1,),),), 1)
        one, other = Net(2, ((0, 1),)), Net(3, ((0, 2),))
        self.assertEqual(text_of_code(one, code), text_of_code(other, code))

    def test_lines_of_bent_links_in_another_sequence(self):
        for text in ("silent 0\nwrong 1 1.1\n", "silent 1\nsilent 0\n"):
            told(self, read_bent, [LINE, Field(2, 2), text], errors.ParseError)
