"""The whole program: its interface, and the main statements [0.15] to [0.18] over all stages."""

import importlib
import inspect
import itertools
import random
import unittest

from rowsthrough import errors
from rowsthrough.base.fields import Field
from rowsthrough.base.matrices import inverted, word_solved
from rowsthrough.bent.telling import does_tell, is_reader_or_mixed, most_wrong, reader_or_mixed, telling
from rowsthrough.check.checker import is_claim, kinds, opposite, takes
from rowsthrough.code.decoding import near_answer
from rowsthrough.hide.hiding import does_hide, hiding, most_hidden
from rowsthrough.house.desk import Desk, read_log
from rowsthrough.link.allsinks import code_or_cut
from rowsthrough.link.linkcodes import had_from
from rowsthrough.net.flows import most_ways, ways_or_cut
from rowsthrough.net.nets import Net
from rowsthrough.net.plain import greatest_plain, plain_code, to_all, to_some
from rowsthrough.texts.texts import read_bent, read_code, read_net, text_of_bent, text_of_code, text_of_net
from rowsthrough.whole.changes import greatest_message, kept_frontier, loss
from rowsthrough.whole.letters import SIGNS, letter_read, letter_sent, other_letter, parts_of
from rowsthrough.whole.plans import does_keep, plan_or_cut, room
from rowsthrough.whole.sending import fitting, heard, is_fitting, sent
from tests.helper import (
    all_cuts, drawn_nets, least_number, own_cut_links, own_of, random_code, random_link_code, random_words, told,
)

INTERFACE = """
rowsthrough.base.fields
    is_free(q, lower); Field(q, m); is_word(field, value); word_of(field, number); number_of(field, word)
    plus(field, one, other); minus(field, one, other); times(field, one, other); inverse(field, word)
    power(field, word, number); raised(field, word, turns); scaled(field, number, word)
rowsthrough.base.matrices
    base_rank(q, rows); echelon(q, rows); kernel(q, rows); solved(q, rows, side); is_solved(q, rows, side, value)
    base_product(q, one, other); product(field, one, other); word_rank(field, rows); word_echelon(field, rows)
    word_kernel(field, rows); word_solved(field, rows, side); is_word_solved(field, rows, side, value)
    inverted(field, rows); is_inverted(field, rows, value); rank_of(field, words)
rowsthrough.code.polynomials
    is_polynomial(field, value); value_at(field, polynomial, word); poly_sum(field, one, other)
    poly_product(field, one, other); right_divided(field, one, other); left_divided(field, one, other)
    roots(field, polynomial); zero_on(field, words); right_shared(field, one, other); left_joined(field, one, other)
    matrix_of(field, polynomial); polynomial_of(field, matrix)
rowsthrough.code.rankcodes
    moore(field, words, size); are_independent(field, words); codeword(field, points, polynomial)
    is_codeword(field, points, size, value); polynomial_through(field, points, words)
    rank_distance(field, one, other); nearest_pair(field, points, size); check_points(field, points, size)
    is_check_points(field, points, size, value); syndromes(field, checks, size, words); rank_counts(field, many, size)
rowsthrough.code.decoding
    decoded(field, points, size, received, most); near_answer(field, points, size, received, most)
    is_near_answer(field, points, size, received, most, value); helpers(field, points, size, received, most)
    is_helpers(field, points, size, received, most, value); unique_most(field, points, size)
    two_near(field, points, size, most); is_two_near(field, points, size, most, value)
rowsthrough.net.nets
    net_fault(points, links); Net(points, links); into(net, point); out_of(net, point); come_to(net, points)
    leading(net, point); way_or_shore(net, begin, end); is_way(net, begin, end, value)
    is_shore(net, begin, end, value); number_of_ways(net, begin, end); without_links(net, lot)
    with_link(net, tail, head); placed(net, order)
rowsthrough.net.flows
    ways_or_cut(net, sink, number); is_ways_or_cut(net, sink, number, value); most_ways(net, sink)
    cut_links(net, cut); least_cuts(net, sink); is_least_cut(net, sink, value); needed_links(net, sink)
    parted(net, sink, lot); weakest(net, sinks)
rowsthrough.link.linkcodes
    is_link_code(net, q, n, value); vectors(net, q, n, code); sink_rows(net, q, n, code, sink)
    sink_rank(net, q, n, code, sink); carried(net, field, n, code, words); had_from(net, q, n, code, sink, wanted)
    is_had_from(net, q, n, code, sink, wanted, value)
rowsthrough.link.allsinks
    is_for_all(net, sinks, n, q, value); code_or_cut(net, sinks, n, q); is_code_or_cut(net, sinks, n, q, value)
    ways_code(net, sinks, n, q, ways); known_from(net, sinks, n, q, code, sink)
    is_known_from(net, sinks, n, q, code, sink, value); has_room(net, sinks, n)
rowsthrough.bent.wrong
    is_wrong(net, field, value); is_silent(net, value); bent_words(net, field, n, code, words, wrong, silent)
    added_words(net, field, n, code, wrong, silent); transfer(net, q, n, code, silent)
    silent_vectors(net, q, n, code, silent); as_wrong(net, field, n, code, words, silent)
rowsthrough.bent.telling
    is_code(net, value); sink_words(net, code, sink, silent); reader_or_mixed(net, code, sink, silent, lot)
    is_reader_or_mixed(net, code, sink, silent, lot, value); read_by(net, code, sink, reader, words)
    telling(net, code, sink, t, s); is_telling(net, code, sink, t, s, value); does_tell(net, code, sink, t, s)
    most_wrong(net, code, sink, s)
rowsthrough.hide.hiding
    tapped_rows(net, code, lot); hiders_or_leak(net, code, lot); is_hiders_or_leak(net, code, lot, value)
    hiding(net, code, k); is_hiding(net, code, k, value); does_hide(net, code, k); most_hidden(net, code)
    other_drawn(net, code, lot, message, drawn, other); shares(net, code, lot, message)
rowsthrough.whole.plans
    plan_or_cut(net, sinks, numbers, q); is_plan_or_cut(net, sinks, numbers, q, value)
    does_keep(net, code, sinks, t, s, k); room(net, sinks); frontier(net, sinks)
rowsthrough.whole.sending
    source_words(net, code, message, drawn); sent(net, code, message, drawn, wrong, silent); heard(net, words, sink)
    fitting(net, code, sink, t, silent, words); is_fitting(net, code, sink, t, silent, words, value)
    read(net, code, sink, t, silent, words)
rowsthrough.net.plain
    is_plain(net, n, value); gets(net, n, plan, point); plain_code(net, n, plan); trees(net, n, plan)
    to_one(net, n, sink); is_to_one(net, n, sink, value); to_all(net, n); is_to_all(net, n, value)
    to_some(net, n, sinks); greatest_plain(net, sinks)
rowsthrough.whole.changes
    code_without(net, code, link); code_with(net, code, tail, head); kept_frontier(net, code, sinks, most)
    greatest_message(net, sinks, t, s, k); loss(net, sinks, link); is_loss(net, sinks, link, value)
    gain(net, sinks, tail, head); is_gain(net, sinks, tail, head, value)
rowsthrough.whole.letters
    sign_size(q); parts_of(field, r, letter); letter_of(field, r, parts)
    letter_sent(net, code, letter, drawn, wrong, silent); letter_read(net, code, sink, t, silent, words)
    other_letter(net, code, lots, letter, drawn, other)
rowsthrough.texts.texts
    text_of_net(net, sinks); read_net(text); text_of_code(net, code); read_code(net, text)
    text_of_bent(net, field, wrong, silent); read_bent(net, field, text)
rowsthrough.check.checker
    kinds(); is_claim(value); opposite(claim); takes(claim, paper)
rowsthrough.house.desk
    Desk(net); read_log(text)
"""

FLY = Net(7, ((0, 1), (0, 2), (1, 3), (1, 5), (2, 3), (2, 6), (3, 4), (4, 5), (4, 6)))
LINE = Net(2, ((0, 1), (0, 1), (0, 1)))
NUMBERS = [
    numbers for numbers in itertools.product(range(1, 4), range(3), range(3), range(3))
    if numbers[0] + 2 * numbers[1] + numbers[2] + numbers[3] <= 6
]


def interface():
    """Each module with its names, and the parameters of each."""
    for line in INTERFACE.strip().split("\n"):
        if not line.startswith(" "):
            module = importlib.import_module(line)
            continue
        for entry in line.strip().split("; "):
            name, _, rest = entry.partition("(")
            yield module, name, [one for one in rest[:-1].split(", ") if one]


def some_sinks(chance, net):
    return tuple(sorted(chance.sample(range(1, net.points), chance.randrange(1, min(4, net.points)))))


def small_nets(seed):
    chance = random.Random(seed)
    yield from ((FLY, (5, 6)), (LINE, (1,)), (Net(3, ((0, 1),) * 4 + ((0, 2),) * 2 + ((1, 2),) * 3), (1, 2)))
    for net in drawn_nets(seed, 9, 6):
        yield net, some_sinks(chance, net)


class Interface(unittest.TestCase):
    def test_names_and_parameters(self):
        number = 0
        for module, name, parameters in interface():
            found = getattr(module, name)
            self.assertEqual(list(inspect.signature(found).parameters), parameters, name)
            self.assertEqual(found.__module__, module.__name__)
            number += 1
        self.assertEqual(number, 166)

    def test_methods_of_the_desk(self):
        wanted = {
            "edit": ["changes"], "watch": ["name", "sinks", "numbers"], "unwatch": ["name"], "answer": ["name"],
            "paper": ["name"],
            "changed": ["name"], "undo": ["many"], "log": [], "twin": [], "__eq__": ["other"],
        }
        for name, parameters in wanted.items():
            self.assertEqual(list(inspect.signature(vars(Desk)[name]).parameters)[1:], parameters)
        self.assertEqual(inspect.signature(Desk.undo).parameters["many"].default, 1)
        self.assertTrue({"net", "done", "watches"} <= set(vars(Desk(FLY))))

    def test_nothing_is_iterated_over(self):
        for value in (FLY, Field(2, 1), Desk(FLY)):
            with self.assertRaises(TypeError):
                iter(value)


class MainStatement(unittest.TestCase):
    """[0.15]: EITHER a code keeps (t, s, k), and letters go through, OR a cut is told."""

    def letters_go_through(self, chance, net, sinks, numbers, code):
        own, (r, t, s, k) = own_of(code), numbers
        letter, other = ["".join(chance.choice(SIGNS) for _ in range(4)) for _ in range(2)]
        many = len(parts_of(code[0], r, letter))
        drawn = tuple(random_words(chance, own.q, own.m, k) for _ in range(many))
        pairs, silent = [], []
        for _ in range(many):
            links = chance.sample(range(len(net.links)), t + s)
            pairs.append(tuple((link, random_words(chance, own.q, own.m, 1)[0]) for link in sorted(links[:t])))
            silent.append(tuple(sorted(links[t:])))
        rows = letter_sent(net, code, letter, drawn, tuple(pairs), tuple(silent))
        for sink in sinks:
            words = tuple(heard(net, row, sink) for row in rows)
            self.assertEqual(letter_read(net, code, sink, t, tuple(silent), words), ("read", letter))
        lots, nothing = tuple(tuple(sorted(chance.sample(range(len(net.links)), k))) for _ in range(many)), ((),) * many
        found = other_letter(net, code, lots, letter, drawn, other)
        one = letter_sent(net, code, letter, drawn, nothing, nothing)
        two = letter_sent(net, code, other, found, nothing, nothing)
        for lot, words, others in zip(lots, one, two):
            self.assertEqual([words[link] for link in lot], [others[link] for link in lot])

    def test_code_or_cut(self):
        chance, seen = random.Random(291), set()
        for net, sinks in small_nets(292):
            least = min(least_number(net, sink) for sink in sinks)
            for numbers in chance.sample(NUMBERS, 9):
                r, t, s, k = numbers
                n, q = r + 2 * t + s + k, chance.choice((3, 5))
                answer = plan_or_cut(net, sinks, numbers, q)
                kind = "planned" if answer[0] == "plan" else "unplanned"
                self.assertEqual(kind, "planned" if n <= least else "unplanned")
                claim = (kind, net, sinks, numbers, q)
                self.assertEqual([takes(claim, answer), takes(opposite(claim), answer)], [True, False])
                if answer[0] == "cut":
                    self.assertIn(answer[2], all_cuts(net, answer[1]))
                    self.assertLess(len(own_cut_links(net, answer[2])), n)
                    self.no_code(chance, net, sinks, numbers, q)
                else:
                    code = answer[1]
                    self.assertIs(does_keep(net, code, sinks, t, s, k), True)
                    self.assertTrue(all(kept >= t for kept in kept_frontier(net, code, sinks, s)[s:]))
                    if len(net.links) >= t + s:
                        self.letters_go_through(chance, net, sinks, numbers, code)
                most = greatest_message(net, sinks, t, s, k)
                self.assertEqual((most or 0) >= r, answer[0] == "plan")
                seen.add((answer[0], len(sinks) > 1, t > 0, s > 0, k > 0))
        for kind, several in itertools.product(("plan", "cut"), (True, False)):
            self.assertTrue([entry for entry in seen if entry[:2] == (kind, several)])
        for place in (2, 3, 4):
            self.assertTrue([entry for entry in seen if entry[0] == "plan" and entry[place]])

    def no_code(self, chance, net, sinks, numbers, q):
        """Drawn codes do not keep what a cut bars; nor do plans with link codes of all sorts in the place of theirs."""
        r, t, s, k = numbers
        for _ in range(3):
            code = random_code(chance, net, q, 2, chance.randrange(1, 7), min(12, r + chance.randrange(4)), r)
            if len(code[2]) >= r:
                self.assertIs(does_keep(net, code, sinks, t, s, k), False)

    def test_messages_led_to_one_another(self):
        """[0.16]: across a cut of too few links two messages are made to carry the same."""
        chance, seen = random.Random(293), 0
        for net, sinks in small_nets(294):
            for t, s in ((0, 0), (1, 0), (0, 1)):
                least, sink = min((least_number(net, sink), sink) for sink in sinks)
                r = max(1, least + 1 - 2 * t - s)
                code = random_code(chance, net, 2, 1, 3, r + 1, r)
                kind, silent, one, other = telling(net, code, sink, t, s)
                self.assertEqual(kind, "two")
                found = [heard(
                    net, sent(net, code, message, drawn, wrong, silent), sink,
                ) for message, drawn, wrong in (one, other)]
                self.assertEqual(found[0], found[1])
                self.assertNotEqual(one[0], other[0])
                seen += 1
        self.assertGreater(seen, 30)

    def test_any_code_is_judged(self):
        """[0.17]"""
        chance, seen = random.Random(295), set()
        for net, sinks in small_nets(296):
            for q, m in ((2, 2), (3, 1)):
                many = chance.randrange(1, 4)
                code = random_code(chance, net, q, m, chance.randrange(1, 4), many, chance.randrange(1, many + 1))
                for sink, (t, s) in itertools.product(sinks, ((0, 0), (0, 1), (1, 0))):
                    answer = telling(net, code, sink, t, s)
                    claims = [(kind, net, code, sink, t, s) for kind in ("tells", "mixes")]
                    self.assertEqual([takes(claim, answer) for claim in claims], [answer[0] == "tells", answer[0] == "two"])
                    self.assertEqual(does_tell(net, code, sink, t, s), answer[0] == "tells")
                    seen.add(answer[0])
                for k in range(3):
                    answer = hiding(net, code, k)
                    claims = [(kind, net, code, k) for kind in ("hides", "leaks")]
                    self.assertEqual([takes(claim, answer) for claim in claims], [answer[0] == "hides", answer[0] == "leak"])
                    hidden = most_hidden(net, code)
                    self.assertEqual(hidden is None or hidden >= k, answer[0] == "hides")
                    seen.add(answer[0])
                # What is told by each stage hangs together.
                told_with = [most_wrong(net, code, sink, 0) for sink in sinks]
                self.assertEqual(kept_frontier(net, code, sinks, 0), (-1 if None in told_with else min(told_with),))
        self.assertEqual(seen, {"tells", "two", "hides", "leak"})


class Together(unittest.TestCase):
    def test_the_checker_takes_what_the_stages_tell(self):
        chance, seen = random.Random(297), set()
        field = Field(2, 2)
        for net, sinks in small_nets(298):
            sink, n, q = sinks[0], chance.randrange(1, 4), chance.choice((3, 5))
            code, wanted = random_link_code(chance, net, q, n), tuple(chance.randrange(q) for _ in range(n))
            rows, side = (random_words(chance, 2, 2, 2), random_words(chance, 2, 2, 2)), random_words(chance, 2, 2, 2)
            points = ((1, 0), (0, 1))
            asked = [
                (("solved", "barred"), (field, rows, side), word_solved(field, rows, side)),
                (("inverted", "lost"), (field, rows), inverted(field, rows)),
                (("near", "far"), (field, points, 1, side, 0), near_answer(field, points, 1, side, 0)),
                (("ways", "cut"), (net, sink, n), ways_or_cut(net, sink, n)),
                (("had", "wanting"), (net, q, n, code, sink, wanted), had_from(net, q, n, code, sink, wanted)),
                (("for all", "too few"), (net, sinks, n, q), code_or_cut(net, sinks, n, q)),
                (("copied", "starved"), (net, n), to_all(net, n)),
            ]
            asked += [(("spared", "needed"), (net, sinks, link), loss(net, sinks, link)) for link in range(len(net.links))]
            for pair, members, answer in asked:
                claims = [(kind, *members) for kind in pair]
                self.assertEqual([is_claim(claim) for claim in claims], [True, True])
                taken = [takes(claim, answer) for claim in claims]
                self.assertEqual(sum(taken), 1)
                seen.add(pair[taken.index(True)])
        left = {"tells", "mixes", "hides", "leaks", "planned", "unplanned"}
        self.assertEqual(seen, set(kinds()) - left)

    def test_texts_there_and_back(self):
        chance = random.Random(299)
        for net, sinks in small_nets(300):
            numbers = (1, 0, 0, 0) if room(net, sinks) < 2 else (1, 0, 1, 0)
            answer = plan_or_cut(net, sinks, numbers, 3)
            again, others = read_net(text_of_net(net, sinks))
            self.assertEqual((again, others), (net, sinks))
            if answer[0] == "plan":
                code = read_code(again, text_of_code(net, answer[1]))
                self.assertTrue(takes(("planned", again, others, numbers, 3), ("plan", code)))
                words = random_words(chance, 3, code[0].m, 2)
                pairs, silent = ((0, words[0]),), (1,) if len(net.links) > 1 else ()
                bent = read_bent(again, code[0], text_of_bent(net, code[0], pairs, silent))
                self.assertEqual(sent(net, code, words[1:], (), *bent), sent(net, answer[1], words[1:], (), pairs, silent))

    def test_the_desk_and_the_checker(self):
        chance = random.Random(301)
        for net, sinks in small_nets(302):
            desk = Desk(net)
            desk.watch("w", sinks, (1, 0, 0, 1))
            for _ in range(4):
                if desk.net.links:
                    desk.edit((("take", chance.randrange(len(desk.net.links))),))
                answer, paper = desk.answer("w"), desk.paper("w")
                kind = "planned" if answer[0] == "kept" else "unplanned"
                claim = (kind, desk.net, sinks, (1, 0, 0, 1), 2 if len(sinks) < 3 else 3)
                self.assertTrue(takes(claim, paper))
                self.assertEqual(answer[1], room(desk.net, sinks))
            self.assertTrue(read_log(desk.log()) == desk)

    def test_plain_plans_as_codes(self):
        """What comes without mixing is sent, and read, by link codes as well."""
        chance = random.Random(303)
        for net, sinks in ((FLY, (5,)), (LINE, (1,)), (Net(4, ((0, 1), (0, 1), (0, 2), (1, 3), (2, 3))), (1, 3))):
            n = greatest_plain(net, sinks)
            plan = to_some(net, n, sinks)[1]
            rows = tuple(tuple((int(i == j), 0) for j in range(n)) for i in range(n))
            code = (Field(3, 2), plain_code(net, n, plan), rows, n)
            message = random_words(chance, 3, 2, n)
            words = sent(net, code, message, (), (), ())
            for sink in sinks:
                self.assertEqual(fitting(net, code, sink, 0, (), heard(net, words, sink)), ("fits", message, (), ()))
                self.assertIs(is_fitting(net, code, sink, 0, (), heard(net, words, sink), ("none",)), False)

    def test_errors_keep_their_values(self):
        told(self, plan_or_cut, [FLY, (5, 6), (1, 0, 0, 0), 4], errors.InvalidNumber, [4])
        desk = Desk(FLY)
        for call, wanted, kept in (
            (lambda: desk.undo(2), errors.NothingToUndo, {"wanted": 2}),
            (lambda: desk.answer("x"), errors.UnknownName, {"asked": "x"}),
            (lambda: read_log("x"), errors.ParseError, {"spot": 0}),
            (lambda: desk.edit((("take", 9),)), errors.Refused, {"reason": ("change", 0)}),
            (lambda: desk.watch("x", (1,), (6, 1, 0, 0)), errors.TooMany, {"limit": 6}),
            (lambda: desk.undo(0), errors.InvalidNumber, {"given": 0}),
        ):
            with self.assertRaises(wanted) as caught:
                call()
            self.assertEqual(vars(caught.exception), kept)


class NoneIsTrue(unittest.TestCase):
    """[0.18]"""

    def test_what_is_told_while_a_link_is_silent(self):
        # Point 1 gets the message and a drawn word, and hands on their sum: the drawn word must be silent.
        net = Net(3, ((0, 1), (0, 1), (1, 2)))
        code = (Field(2, 1), ((1, 0), (0, 1), (1, 1)), (((1,), (0,)), ((0,), (1,))), 1)
        one, other = reader_or_mixed(net, code, 2, (1,), ()), reader_or_mixed(net, code, 2, (), ())
        self.assertEqual([one[0], other[0]], ["reader", "mixed"])
        self.assertIs(is_reader_or_mixed(net, code, 2, (1,), (), one), True)

    def test_silent_links_and_half_as_many_wrong_ones(self):
        net = Net(3, ((0, 1),) * 4 + ((1, 2),) * 3)
        code = (Field(2, 1), ((0,), (1,), (1,), (1,), (1, 1, 0, 0), (1, 0, 1, 0), (1, 0, 0, 1)), (((1,),),), 1)
        self.assertEqual([does_tell(net, code, 2, 0, 2), does_tell(net, code, 2, 1, 0)], [True, False])

    def test_a_greater_least_cut_for_one_sink(self):
        one, other = Net(3, ((0, 1), (0, 2))), Net(3, ((0, 1), (0, 2), (0, 2)))
        self.assertEqual([most_ways(one, 2), most_ways(other, 2)], [1, 2])
        self.assertEqual([greatest_message(net, (1, 2), 0, 0, 0) for net in (one, other)], [1, 1])

    def test_as_many_words_without_mixing(self):
        self.assertEqual([greatest_message(FLY, (5, 6), 0, 0, 0), greatest_plain(FLY, (5, 6))], [2, 1])
        self.assertIs(does_hide(FLY, plan_or_cut(FLY, (5, 6), (1, 0, 0, 1), 2)[1], 1), True)
