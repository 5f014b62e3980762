"""Stage 20: the desk."""

import copy
import random
import re
import unittest

from rowsthrough import errors
from rowsthrough.house import desk as module
from rowsthrough.house.desk import MOST_DONE, MOST_WATCHES, Desk, read_log
from rowsthrough.net import nets
from rowsthrough.net.nets import Net
from rowsthrough.whole.plans import is_plan_or_cut
from tests.helper import (
    all_cuts, drawn_nets, junk, least_number, own_cut_links, run_examples, spoiled, told, without, wrong_nets, wrong_sinks,
)

EXAMPLES = r"""
>>> DESK = Desk(Net(3, ((0, 1), (0, 2), (1, 2))))
>>> DESK.watch("go", (2,), (1, 0, 1, 0))
>>> [DESK.answer("go"), DESK.paper("go")[0]]
[('kept', 2), 'plan']
>>> DESK.edit((("take", 0), ("point",), ("put", 1, 3)))
>>> [DESK.answer("go"), DESK.changed("go"), DESK.paper("go")[:2], DESK.net.links]
[('barred', 1), (('kept', 2), ('barred', 1)), ('cut', 2), ((0, 2), (1, 2), (1, 3))]
>>> DESK.log().split("\n")
['net 3 0-1,0-2,1-2', 'watch go 2 1 0 1 0', 'edit take 0; point; put 1-3']
>>> DESK.edit((("put", 0, 1), ("put", 3, 3)))
raises Refused(('change', 1))
"""

NUMBER = "(0|[1-9][0-9]?)"
BASE = {1: 2, 2: 2, 3: 3, 4: 5, 5: 5, 6: 7}


class OwnDesk:
    """The test's own desk: all that was done is kept, and done again from the first net on."""

    def __init__(self, net):
        self.first = net
        self.things = []

    def states(self):
        """The net ahead of each thing, and behind the last one."""
        found = [self.first]
        for thing in self.things:
            found.append(own_edited(found[-1], thing[1])[0] if thing[0] == "edit" else found[-1])
        return found

    def net(self):
        return self.states()[-1]

    def watches(self):
        """For each name its sinks, its numbers, and where it began."""
        found = {}
        for index, thing in enumerate(self.things):
            if thing[0] == "watch":
                found[thing[1]] = (thing[2], thing[3], index)
            elif thing[0] == "unwatch":
                del found[thing[1]]
        return found

    def answer(self, name, net):
        sinks, (r, t, s, k), _ = self.watches()[name]
        most = min(least_number(net, sink) for sink in sinks)
        return ("kept" if r + 2 * t + s + k <= most else "barred", most)

    def changed(self, name):
        edits = [index for index, thing in enumerate(self.things) if thing[0] == "edit" and index > self.watches()[name][2]]
        if not edits:
            return None
        return self.answer(name, self.states()[edits[-1]]), self.answer(name, self.net())

    def log(self):
        links = [f"{tail}-{head}" for tail, head in self.first.links]
        lines = [" ".join(["net", str(self.first.points), ",".join(links) or "-"])]
        for thing in self.things:
            if thing[0] == "edit":
                parts = [f"put {one[1]}-{one[2]}" if one[0] == "put" else " ".join(map(str, one)) for one in thing[1]]
                lines.append("edit " + "; ".join(parts))
            elif thing[0] == "watch":
                lines.append(f"watch {thing[1]} " + ",".join(map(str, thing[2])) + " " + " ".join(map(str, thing[3])))
            else:
                lines.append("unwatch " + thing[1])
        return "\n".join(lines)


def own_edited(net, changes):
    """The pair of the net with the changes, and of the place of the first one that cannot be done."""
    points, links = net.points, list(net.links)
    for place, change in enumerate(changes):
        if change[0] == "put":
            if not change[1] < change[2] < points or len(links) == 20:
                return None, place
            links.append(change[1:])
            links.sort()
        elif change[0] == "take":
            if change[1] >= len(links):
                return None, place
            del links[change[1]]
        else:
            if points == 10:
                return None, place
            points += 1
    return Net(points, tuple(links)), None


def drawn_change(chance, net):
    kind = chance.choice(("put", "put", "take", "take", "point") if chance.randrange(3) else ("put", "take"))
    if kind == "put":
        # Now and then to no point, or to the tail itself.
        most = net.points + (chance.randrange(8) == 0)
        tail = chance.randrange(net.points - 1)
        return ("put", tail, chance.randrange(tail + (chance.randrange(8) > 0), most))
    if kind == "take":
        return ("take", chance.randrange(max(len(net.links), 1) + (chance.randrange(8) == 0)))
    return ("point",)


def own_read(log):
    """The own desk with the log, or the index of the first line that cannot stand."""
    desk = None
    for index, line in enumerate(log.split("\n")):
        thing = own_thing(desk, line)
        if thing is None:
            return index
        if desk is None:
            desk = OwnDesk(thing)
        else:
            desk.things.append(thing)
    return desk


def own_thing(desk, line):
    if desk is None:
        match = re.fullmatch(rf"net {NUMBER} (-|{NUMBER}-{NUMBER}(,{NUMBER}-{NUMBER})*)", line)
        if not match:
            return None
        points = int(match[1])
        links = [] if match[2] == "-" else [tuple(map(int, link.split("-"))) for link in match[2].split(",")]
        right = 2 <= points <= 10 and links == sorted(links) and len(links) <= 20 and all(tail < head < points for tail, head in links)
        return Net(points, tuple(links)) if right else None
    net, watches = desk.net(), desk.watches()
    if len(desk.things) == 400:
        return None
    if re.fullmatch(rf"edit (put {NUMBER}-{NUMBER}|take {NUMBER}|point)(; (put {NUMBER}-{NUMBER}|take {NUMBER}|point))*", line):
        changes = []
        for part in line[5:].split("; "):
            words = re.split("[ -]", part)
            changes.append((words[0], *map(int, words[1:])))
        right = len(changes) <= 8 and all(max(one[1:], default=0) <= 20 for one in changes) and own_edited(net, changes)[0]
        return ("edit", tuple(changes)) if right else None
    match = re.fullmatch(rf"watch ([a-z]{{1,8}}) ({NUMBER}(?:,{NUMBER})*) {NUMBER} {NUMBER} {NUMBER} {NUMBER}", line)
    if match:
        words = line.split(" ")
        sinks, numbers = tuple(map(int, words[2].split(","))), tuple(map(int, words[3:]))
        right = list(sinks) == sorted(set(sinks)) and 0 < sinks[0] and sinks[-1] < net.points and len(sinks) <= 6 and numbers[0] > 0
        right = right and numbers[0] + 2 * numbers[1] + sum(numbers[2:]) <= 6 and words[1] not in watches and len(watches) < 8
        return ("watch", words[1], sinks, numbers) if right else None
    words = line.split(" ")
    return ("unwatch", words[1]) if len(words) == 2 and words[0] == "unwatch" and words[1] in watches else None


def some_numbers(chance):
    while True:
        numbers = (chance.randrange(1, 5), chance.randrange(2), chance.randrange(3), chance.randrange(3))
        if numbers[0] + 2 * numbers[1] + numbers[2] + numbers[3] <= 6:
            return numbers


class Compared(unittest.TestCase):
    def compare(self, desk, own):
        """The desk is as the test's own one."""
        self.assertEqual(desk.net, own.net())
        watches = own.watches()
        self.assertEqual((type(desk.watches), desk.watches), (tuple, tuple(sorted(watches))))
        self.assertEqual((type(desk.done), desk.done), (int, len(own.things)))
        self.assertEqual(desk.log(), own.log())

    def refused(self, desk, method, arguments, wanted, kept=None):
        """The error is raised, and nothing is changed."""
        before, log, arguments = (desk.net, desk.done, desk.watches), desk.log(), list(arguments)
        shown = repr(arguments)
        with self.assertRaises(wanted, msg=arguments) as caught:
            method(*arguments)
        self.assertIs(type(caught.exception), wanted)
        if kept is not None:
            self.assertEqual(list(vars(caught.exception).values()), [kept])
        self.assertEqual([(desk.net, desk.done, desk.watches), desk.log(), repr(arguments)], [before, log, shown])

    def run_drawn(self, seed, net, many):
        """A run of drawn things, compared step by step: the desk and the test's own one."""
        chance, desk, own, seen = random.Random(seed), Desk(net), OwnDesk(net), set()
        for _ in range(many):
            seen.add(self.step(chance, desk, own))
        self.compare(desk, own)
        return desk, own, seen

    def step(self, chance, desk, own):
        kind = chance.choice(("edit", "edit", "edit", "watch", "watch", "unwatch", "undo", "changed"))
        net, watches = own.net(), own.watches()
        if kind == "edit":
            return self.drawn_edit(chance, desk, own, net)
        if kind == "watch":
            name = chance.choice(("a", "go", "north", "abcdefgh", "x", "y", "z", "aa", "ab", "ac"))
            sinks = tuple(sorted(chance.sample(range(1, net.points), chance.randrange(1, min(6, net.points - 1) + 1))))
            numbers = some_numbers(chance)
            if name in watches:
                self.refused(desk, desk.watch, [name, sinks, numbers], errors.Refused, ("watch",))
                return "used"
            if len(watches) == 8:
                self.refused(desk, desk.watch, [name, sinks, numbers], errors.TooMany, 8)
                return "nine"
            self.assertIsNone(desk.watch(name, sinks, numbers))
            own.things.append(("watch", name, sinks, numbers))
        elif kind == "unwatch" and watches and chance.randrange(2):
            name = chance.choice(sorted(watches))
            self.assertIsNone(desk.unwatch(name))
            own.things.append(("unwatch", name))
        elif kind == "undo":
            many = chance.choice((1, 1, 1, 2, 3, len(own.things), len(own.things) + 1)) or 1
            if many > len(own.things):
                self.refused(desk, desk.undo, [many], errors.NothingToUndo, many)
                return "nothing"
            self.assertIsNone(desk.undo() if many == 1 and chance.randrange(2) else desk.undo(many))
            del own.things[-many:]
        for name in chance.sample(sorted(watches), min(len(watches), 2)):
            if name in own.watches():
                self.asked(desk, own, name)
        return kind

    def drawn_edit(self, chance, desk, own, net):
        changes, now = [], net
        for _ in range(chance.choice((1, 1, 2, 3, 8))):
            changes.append(drawn_change(chance, now))
            now = own_edited(now, changes[-1:])[0] or now
        after, place = own_edited(net, changes)
        if after is None:
            self.refused(desk, desk.edit, [tuple(changes)], errors.Refused, ("change", place))
            return "refused", place
        self.assertIsNone(desk.edit(tuple(changes)))
        own.things.append(("edit", tuple(changes)))
        self.compare(desk, own)
        return "edit"

    def asked(self, desk, own, name):
        """What the desk tells of a watch."""
        net = own.net()
        answer = desk.answer(name)
        self.assertEqual(answer, own.answer(name, net))
        changed = own.changed(name)
        if changed is None:
            self.refused(desk, desk.changed, [name], errors.Refused, ("edit",))
        else:
            self.assertEqual(desk.changed(name), changed)
            # One edit can do much, but each change does at most one thing.
            most = max(len(thing[1]) for thing in own.things if thing[0] == "edit")
            self.assertLessEqual(abs(changed[0][1] - changed[1][1]), most)
        sinks, numbers, _ = own.watches()[name]
        paper = desk.paper(name)
        self.assertEqual(paper[0], "plan" if answer[0] == "kept" else "cut")
        if paper[0] == "cut":
            self.assertIn(paper[1], sinks)
            self.assertIn(paper[2], all_cuts(net, paper[1]))
            self.assertLess(len(own_cut_links(net, paper[2])), numbers[0] + 2 * numbers[1] + numbers[2] + numbers[3])
        else:
            self.assertEqual(paper[1][0].q, BASE[len(sinks)])
            self.assertEqual(paper[1][3], numbers[0])
            if len(net.links) < 9:
                self.assertIs(is_plan_or_cut(net, sinks, numbers, BASE[len(sinks)], paper), True)


class Examples(unittest.TestCase):
    def test_examples(self):
        run_examples(self, EXAMPLES, {**vars(nets), **vars(module)})

    def test_constants(self):
        self.assertEqual([MOST_WATCHES, MOST_DONE], [8, 400])


class Runs(Compared):
    def test_drawn_runs(self):
        seen = set()
        for seed, net in enumerate((
            Net(3, ((0, 1), (0, 2), (1, 2))), Net(2, ()), Net(10, ()), Net(2, ((0, 1),) * 20),
            *list(drawn_nets(271))[5:14],
        )):
            desk, own, found = self.run_drawn(seed, net, 60)
            seen |= found
            again = read_log(desk.log())
            self.assertTrue(again == desk)
            self.compare(again, own)
            for name in own.watches():
                self.assertEqual(again.answer(name), desk.answer(name))
        self.assertTrue({
            "edit", "watch", "unwatch", "undo", "nothing", "used", ("refused", 0), ("refused", 1), ("refused", 2),
        } <= seen)
        self.assertTrue([entry for entry in seen if entry[0] == "refused" and entry[1] > 3])

    def test_what_edits_can_do(self):
        """[20.3]"""
        seen, chance = set(), random.Random(272)
        for net in drawn_nets(273, 18):
            desk = Desk(net)
            desk.watch("w", tuple(sorted(chance.sample(range(1, net.points), min(3, net.points - 1)))), (1, 0, 0, 0))
            for _ in range(25):
                change = drawn_change(chance, desk.net)
                if own_edited(desk.net, [change])[0] is not None:
                    desk.edit((change,))
                    (_, ahead), (_, now) = desk.changed("w")
                    steps = {"put": (0, 1), "take": (0, -1), "point": (0,)}[change[0]]
                    self.assertIn(now - ahead, steps)
                    seen.add((change[0], now - ahead))
        self.assertEqual(seen, {("put", 0), ("put", 1), ("take", 0), ("take", -1), ("point", 0)})

    def test_each_change_that_cannot_be_done(self):
        desk = Desk(Net(4, ((0, 1), (0, 1), (1, 2))))
        for change in (
            ("take", 3), ("take", 20), ("put", 1, 1), ("put", 2, 1), ("put", 0, 4), ("put", 3, 20), ("put", 4, 5),
            ("put", 0, 0), ("put", 20, 20),
        ):
            ahead = (("put", 0, 3), ("take", 2)) * 4
            for place in range(8):
                # Behind an odd number of these there is a link more.
                if place % 2 == 0 or change != ("take", 3):
                    self.refused(
                        desk, desk.edit, [(*ahead[:place], change, ("take", 20))[:8]], errors.Refused,
                        ("change", place),
                    )
        full = Desk(Net(10, ((0, 1),) * 20))
        self.refused(full, full.edit, [(("put", 0, 1),)], errors.Refused, ("change", 0))
        self.refused(full, full.edit, [(("take", 0), ("put", 0, 2), ("put", 0, 2))], errors.Refused, ("change", 2))
        self.refused(full, full.edit, [(("take", 0), ("point",))], errors.Refused, ("change", 1))
        full.edit((("take", 19), ("put", 8, 9)))
        self.assertEqual(full.net, Net(10, ((0, 1),) * 19 + ((8, 9),)))

    def test_changes_one_by_one(self):
        desk = Desk(Net(2, ()))
        desk.edit((("point",), ("put", 0, 2), ("put", 0, 1), ("put", 0, 2), ("take", 1), ("put", 1, 2)))
        self.assertEqual(desk.net, Net(3, ((0, 1), (0, 2), (1, 2))))
        desk.edit((("take", 2),))
        desk.edit((("take", 0), ("take", 0)))
        self.assertEqual(desk.net, Net(3, ()))

    def test_undone_at_once(self):
        desk, own, _ = self.run_drawn(77, Net(4, ((0, 1), (0, 2), (1, 3), (2, 3))), 80)
        for many in range(1, desk.done + 1):
            other = desk.twin()
            other.undo(many)
            less = OwnDesk(own.first)
            less.things = own.things[:-many]
            self.compare(other, less)
            for name in less.watches():
                self.asked(other, less, name)
        self.compare(desk, own)
        self.refused(desk, desk.undo, [desk.done + 1], errors.NothingToUndo, desk.done + 1)
        desk.undo(desk.done)
        self.refused(desk, desk.undo, [], errors.NothingToUndo, 1)
        self.assertTrue(desk == Desk(own.first))

    def test_watches(self):
        desk = Desk(Net(3, ((0, 1), (0, 2), (1, 2))))
        for name in "hgfedcba":
            desk.watch(name, (1, 2), (1, 0, 0, 0))
        self.assertEqual(desk.watches, tuple("abcdefgh"))
        self.refused(desk, desk.watch, ["i", (1,), (1, 0, 0, 0)], errors.TooMany, 8)
        # What is used is told ahead of what is too many.
        self.refused(desk, desk.watch, ["a", (1,), (1, 0, 0, 0)], errors.Refused, ("watch",))
        self.refused(desk, desk.watch, ["a", (1,), (6, 0, 0, 1)], errors.TooMany, 6)
        desk.unwatch("c")
        desk.watch("i", (1,), (6, 0, 0, 0))
        self.assertEqual(desk.watches, tuple("abdefghi"))
        self.assertEqual([desk.answer("a"), desk.answer("i")], [("kept", 1), ("barred", 1)])
        desk.undo(2)
        self.assertEqual(desk.watches, tuple("abcdefgh"))

    def test_changed_since_the_watch_began(self):
        desk = Desk(Net(2, ((0, 1),)))
        desk.edit((("put", 0, 1),))
        desk.watch("w", (1,), (2, 0, 0, 0))
        self.refused(desk, desk.changed, ["w"], errors.Refused, ("edit",))
        desk.edit((("put", 0, 1),))
        desk.watch("v", (1,), (3, 0, 0, 0))
        self.assertEqual(desk.changed("w"), (("kept", 2), ("kept", 3)))
        self.refused(desk, desk.changed, ["v"], errors.Refused, ("edit",))
        desk.edit((("take", 0), ("take", 0)))
        self.assertEqual([desk.changed("w"), desk.changed("v")], [(("kept", 3), ("barred", 1)), (("kept", 3), ("barred", 1))])
        desk.undo()
        self.assertEqual(desk.changed("w"), (("kept", 2), ("kept", 3)))
        self.refused(desk, desk.changed, ["v"], errors.Refused, ("edit",))
        # A watch that begins again begins anew; undoing brings the former one back.
        desk.unwatch("w")
        desk.watch("w", (1,), (1, 0, 0, 0))
        self.refused(desk, desk.changed, ["w"], errors.Refused, ("edit",))
        desk.undo(2)
        self.assertEqual(desk.changed("w"), (("kept", 2), ("kept", 3)))

    def test_papers_for_the_net_as_it_is_now(self):
        desk = Desk(Net(3, ((0, 1), (0, 2), (1, 2))))
        desk.watch("w", (2,), (1, 0, 1, 0))
        one = desk.paper("w")
        desk.edit((("take", 0),))
        other = desk.paper("w")
        self.assertEqual([one[0], other[0]], ["plan", "cut"])
        for net, rights in ((Net(3, ((0, 1), (0, 2), (1, 2))), (True, False)), (desk.net, (False, True))):
            self.assertEqual(tuple(is_plan_or_cut(net, (2,), (1, 0, 1, 0), 2, paper) for paper in (one, other)), rights)
        desk.undo()
        self.assertEqual(desk.paper("w"), one)

    def test_least_bases(self):
        star = Net(7, tuple((0, head) for head in range(1, 7)))
        for many, base in BASE.items():
            desk = Desk(star)
            desk.watch("w", tuple(range(1, many + 1)), (1, 0, 0, 0))
            self.assertEqual(desk.paper("w")[1][0].q, base)

    def test_400_things(self):
        desk = Desk(Net(2, ()))
        for _ in range(200):
            desk.edit((("put", 0, 1),))
            desk.edit((("take", 0),))
        self.assertEqual(desk.done, 400)
        self.refused(desk, desk.edit, [(("put", 0, 1),)], errors.TooMany, 400)
        self.refused(desk, desk.edit, [(("take", 0),)], errors.Refused, ("change", 0))
        self.refused(desk, desk.watch, ["w", (1,), (1, 0, 0, 0)], errors.TooMany, 400)
        self.refused(desk, desk.unwatch, ["w"], errors.UnknownName, "w")
        text = desk.log()
        self.assertTrue(read_log(text) == desk)
        self.assertEqual(own_read(text + "\nedit put 0-1"), 401)
        with self.assertRaises(errors.ParseError) as caught:
            read_log(text + "\nedit put 0-1")
        self.assertEqual(caught.exception.spot, 401)
        desk.undo(2)
        desk.watch("w", (1,), (1, 0, 0, 0))
        desk.unwatch("w")
        self.refused(desk, desk.edit, [(("put", 0, 1),)], errors.TooMany, 400)
        desk.undo()
        self.refused(desk, desk.watch, ["w", (1,), (1, 0, 0, 0)], errors.Refused, ("watch",))
        desk.edit((("put", 0, 1),))
        self.refused(desk, desk.unwatch, ["w"], errors.TooMany, 400)
    def test_what_is_told_ahead_of_the_401st_thing(self):
        desk = Desk(Net(2, ()))
        for name in "abcdefgh":
            desk.watch(name, (1,), (1, 0, 0, 0))
        while desk.done < 400:
            desk.edit((("point",), ("put", 0, 1), ("take", 0)) if desk.net.points < 10 else (("put", 0, 1), ("take", 0)))
        self.refused(desk, desk.watch, ["i", (1,), (1, 0, 0, 0)], errors.TooMany, 8)
        self.refused(desk, desk.watch, ["a", (1,), (1, 0, 0, 0)], errors.Refused, ("watch",))
        self.refused(desk, desk.watch, ["a", (1,), (6, 1, 0, 0)], errors.TooMany, 6)
        self.refused(desk, desk.unwatch, ["a"], errors.TooMany, 400)
        self.refused(desk, desk.edit, [(("point",),)], errors.Refused, ("change", 0))


class TwinsAndEquals(Compared):
    def test_a_twin_goes_its_own_way(self):
        for seed in range(4):
            desk, own, _ = self.run_drawn(300 + seed, Net(4, ((0, 1), (0, 2), (1, 3), (2, 3))), 40)
            twin = desk.twin()
            self.assertTrue(twin == desk and not twin != desk)
            self.assertIsNot(twin, desk)
            other, chance = copy.deepcopy(own), random.Random(seed)
            for _ in range(25):
                self.step(chance, twin, other)
            self.compare(twin, other)
            self.compare(desk, own)
            self.assertEqual(twin == desk, own.log() == other.log())
            third = desk.twin()
            for _ in range(25):
                self.step(chance, desk, own)
            self.compare(twin, other)
            self.assertEqual(third == desk, third.log() == own.log())

    def test_a_twin_can_undo(self):
        desk = Desk(Net(2, ()))
        desk.edit((("put", 0, 1),))
        desk.watch("w", (1,), (1, 0, 0, 0))
        twin = desk.twin()
        self.assertEqual([twin.done, twin.watches, twin.answer("w")], [2, ("w",), ("kept", 1)])
        twin.undo(2)
        self.assertEqual([twin.net.links, desk.net.links, twin.done, desk.done], [(), ((0, 1),), 0, 2])

    def test_equal_desks(self):
        net, again = Net(2, ((0, 1),)), Net(2, ((0, 1),))
        self.assertTrue(Desk(net) == Desk(again))
        self.assertFalse(Desk(net) == Desk(Net(3, ((0, 1),))) or Desk(net) == Desk(Net(2, ())))
        one, other = Desk(net), Desk(net)
        one.edit((("put", 0, 1),))
        self.assertTrue(one != other and not one == other)
        other.edit((("put", 0, 1), ("point",)))
        self.assertFalse(one == other)
        other.undo()
        other.edit((("put", 0, 1),))
        self.assertTrue(one == other)
        # The same net, come to otherwise.
        third = Desk(Net(2, ((0, 1), (0, 1))))
        self.assertEqual([third.net == one.net, third == one], [True, False])
        one.undo()
        self.assertTrue(one == Desk(net))
        one.watch("w", (1,), (1, 0, 0, 0))
        other.undo()
        for name, sinks, numbers in (("v", (1,), (1, 0, 0, 0)), ("w", (1,), (2, 0, 0, 0))):
            third = Desk(net)
            third.watch(name, sinks, numbers)
            self.assertFalse(third == one)
        other.watch("w", (1,), (1, 0, 0, 0))
        self.assertTrue(other == one)
        for value in [*junk(), 0, one.log(), net, (net,), one.net]:
            self.assertFalse(one == value)
            self.assertTrue(one != value)

    def test_nothing_else_is_shared(self):
        net = Net(3, ((0, 1), (1, 2)))
        one, other = Desk(net), Desk(net)
        one.edit((("take", 0),))
        one.watch("w", (2,), (1, 0, 0, 0))
        self.assertEqual([other.net, other.watches, other.done, net.links], [net, (), 0, ((0, 1), (1, 2))])
        with self.assertRaises(TypeError):
            iter(one)


class Logs(Compared):
    def spot(self, log):
        """The log is read, or the line is told, as the test's own reader does."""
        wanted = own_read(log)
        if isinstance(wanted, int):
            with self.assertRaises(errors.ParseError, msg=log) as caught:
                read_log(log)
            self.assertEqual((type(caught.exception.spot), caught.exception.spot), (int, wanted), log)
            return wanted
        self.compare(read_log(log), wanted)
        return None

    def bent(self, chance, log):
        lines = log.split("\n")
        yield from (
            "", "\n", log + "\n", "\n" + log, log + "\n" + log, log[:-1], log + " ", log + "x",
            log.replace("\n", "\n\n", 1),
        )
        for index, line in enumerate(lines):
            before, after = lines[:index], lines[index + 1:]
            words = line.split(" ")
            bent = [
                line + " ", " " + line, line.replace(" ", "  ", 1), line.replace("; ", ";", 1),
                line.replace("; ", ", ", 1), line.upper(), line + " 0", line + ";", line + "; ",
            ]
            bent += [
                line.replace("-", " ", 1), line.replace(" ", "-", 1), line.replace(",", ", ", 1), line + "; point",
                line + ",", "", "point", "undo 1", line[:len(line) // 2],
            ]
            for place in range(len(words)):
                for word in (
                    "0" + words[place], words[place] + "0", "x", "-", "0", str(chance.randrange(25)),
                    words[place] + ",1", "+" + words[place], words[place] + ";",
                ):
                    bent.append(" ".join([*words[:place], word, *words[place + 1:]]))
                bent.append(" ".join([*words[:place], *words[place + 1:]]))
            for other in (bent if len(lines) < 6 else chance.sample(bent, min(len(bent), 12))):
                yield "\n".join([*before, other, *after])
            yield from (
                "\n".join([*before, *after]), "\n".join([*before, line, line, *after]),
                "\n".join([*before, chance.choice(lines), line, *after]),
            )
            if after:
                yield "\n".join([*before, after[0], line, *after[1:]])

    def test_lines_bent(self):
        seen = set()
        for seed, net in (
            (1, Net(3, ((0, 1), (0, 2), (1, 2)))), (2, Net(2, ())), (3, Net(10, ((0, 9),))),
            (4, Net(2, ((0, 1),) * 20)), (5, Net(5, ((0, 1), (1, 4)))),
        ):
            chance = random.Random(seed)
            for many in (2, 6, 12):
                desk, _, _ = self.run_drawn(400 + seed * 7 + many, net, many)
                self.assertIsNone(self.spot(desk.log()))
                for bent in self.bent(chance, desk.log()):
                    spot = self.spot(bent)
                    seen.add(spot if spot is None else min(spot, 4))
        self.assertEqual(seen, {None, 0, 1, 2, 3, 4})

    def test_told_ones(self):
        head = "net 3 0-1,0-2,1-2\n"
        for log, spot in (
            ("net 2 -", None), ("net 2 -\n", 1), ("net 2", 0), ("net 2 ", 0), ("net 1 -", 0), ("net 11 -", 0),
            ("net 02 -", 0), ("net 2 0-1,0-1", None),
            ("net 3 0-2,0-1", 0), ("net 3 0-1, 0-2", 0), ("net 3 0-1,", 0), ("net 3 0-3", 0), ("net 3 0-1-2", 0),
            ("net 3 0 1", 0), ("net 3 (0, 1)", 0),
            (head + "edit take 3", 1), (head + "edit take 2", None), (head + "edit take 02", 1),
            (head + "edit put 0 1", 1), (head + "edit put 0-1-2", 1),
            (head + "edit point", None), (head + "edit point 0", 1), (head + "edit points", 1), (head + "edit", 1),
            (head + "edit ", 1), (head + "edit take 0;take 0", 1),
            (head + "edit take 0; take 0; take 0", None), (head + "edit take 0; take 0; take 0; take 0", 1),
            (head + "edit " + "; ".join(["point"] * 7), None),
            (head + "edit " + "; ".join(["point"] * 8), 1),
            (head + "edit " + "; ".join(["put 0-1", "take 0"] * 4), None),
            (head + "edit " + "; ".join(["put 0-1", "take 0"] * 4 + ["point"]), 1), (head + "edit put 0-21", 1),
            (head + "edit put 1-1", 1), (head + "edit take-0", 1),
            (head + "watch go 2 1 0 1 0", None), (head + "watch go 2 1 0 1", 1), (head + "watch go 2 1 0 1 0 0", 1),
            (head + "watch go 2 7 0 0 0", 1),
            (head + "watch go 2 6 0 0 1", 1), (head + "watch go 2 0 0 0 1", 1), (head + "watch Go 2 1 0 1 0", 1),
            (head + "watch abcdefghi 2 1 0 1 0", 1), (head + "watch  2 1 0 1 0", 1),
            (head + "watch go 1,2 1 0 1 0", None), (head + "watch go 2,1 1 0 1 0", 1),
            (head + "watch go 0,2 1 0 1 0", 1), (head + "watch go 3 1 0 1 0", 1), (head + "watch go - 1 0 1 0", 1),
            (head + "edit point\nwatch go 3 1 0 1 0", None), (head + "watch go 2 1 0 1 0\nwatch go 2 1 0 1 0", 2),
            (head + "watch go 2 1 0 1 0\nunwatch go", None),
            (head + "unwatch go", 1), (head + "unwatch", 1), (head + "unwatch ", 1),
            (head + "watch go 2 1 0 1 0\nunwatch go \nunwatch go", 2), (head + "watch go 2 1 0 1 0\nunwatch go 1", 2),
            (head + "watch go 2 1 0 1 0\nunwatch go\nunwatch go", 3), (head + head, 1), (head[:-1] + "\r", 0),
            ("edit point", 0), (head + "\nedit point", 1), ("", 0), (head + "undo 1", 1),
            (head + "\n".join(f"watch {name} 2 1 0 0 0" for name in "abcdefgh"), None),
            (head + "\n".join(f"watch {name} 2 1 0 0 0" for name in "abcdefghi"), 9),
            ("net 2 " + ",".join(["0-1"] * 20), None), ("net 2 " + ",".join(["0-1"] * 21), 0),
            ("net 2 " + ",".join(["0-1"] * 20) + "\nedit put 0-1", 1), (head + "edit take " + "9" * 5000, 1),
            ("net " + "9" * 5000 + " -", 0), (head + "edit take -1", 1), (head + "edit take +1", 1),
            (head + "edit take  1", 1), ("net 2 -\nedit point; point", None), ("net 2 - ", 0),
        ):
            self.assertEqual(self.spot(log), spot, log)

    def test_wrong_arguments(self):
        for value in [*without(junk(), str), 0, 1, (), ["net 2 -"], ("net 2 -",), Net(2, ()), Desk(Net(2, ()))]:
            told(self, read_log, [value], errors.InvalidText)
        for value in [one for one in junk() if isinstance(one, str)] + ["x" * 400_000, "net 2 -" + "\n" * 300_000]:
            self.spot(value)


class WrongArguments(Compared):
    def setUp(self):
        self.desk = Desk(Net(7, ((0, 1), (0, 2), (1, 3), (1, 5), (2, 3), (2, 6), (3, 4), (4, 5), (4, 6))))
        self.desk.watch("go", (5, 6), (1, 0, 1, 0))
        self.desk.edit((("take", 0),))

    def test_nets(self):
        for value in wrong_nets():
            told(self, Desk, [value], errors.InvalidNet)

    def test_changes(self):
        right = (("put", 0, 3), ("take", 2), ("point",))
        wrong = [
            *junk(), 0, 1, (), ((),), "put", ("put", 0, 3), ("point",), [("point",)], (["point"],), (("point", 0),),
            (("put", 0),), (("put", 0, 1, 2),), (("take",),),
            (("take", 0, 1),), (("take", 21),), (("take", -1),), (("put", 21, 0),), (("put", 0, 21),),
            (("put", -1, 0),), (("put", True, 2),), (("put", 0, True),),
            (("take", True),), (("take", False),), (("take", "0"),), (("Point",),), (("points",),), (("give", 0),),
            (("point",),) * 9, (("take", 10 ** 60),), ((None,),), ((0,),),
            (("take", (0,)),), ({},), ("point", "point"), ((("point",),),), (["take", 0],), ({"take": 0},),
            (("point",), None),
        ]
        for value in [*wrong, *[one for one in spoiled(right)]]:
            self.refused(self.desk, self.desk.edit, [value], errors.InvalidOperation)
        # Those that are no changes are told ahead of those that cannot be done.
        self.refused(self.desk, self.desk.edit, [(("take", 20), ("take", 21))], errors.InvalidOperation)
        self.refused(self.desk, self.desk.edit, [(("take", 20), ("take", 20))], errors.Refused, ("change", 0))
        self.assertIsNone(self.desk.edit((("point",),) * 3 + (
            ("put", 0, 1), ("put", 0, 9), ("take", 0), ("take", 0), ("put", 8, 9),
        )))

    def test_watch(self):
        names = [
            *without(junk(), str), 0, "", "Go", "a b", "a1", "abcdefghi", ("go",), ["g"], "go\n", "-", "a_b", "gO",
            "a" * 400_000, "{", "`", "a\nb",
        ]
        sinks = wrong_sinks(self.desk.net, (5, 6))
        numbers = [
            *junk(), 0, 1, (), *spoiled((1, 0, 1, 0)), (0, 0, 1, 0), (7, 0, 0, 0), (1, 7, 0, 0), (1, 0, 7, 0),
            (1, 0, 0, 7), (1, 0, 0), (1, 0, 0, 0, 0), (1, -1, 0, 0),
            (True, 0, 0, 0), (1, False, 0, 0),
        ]
        right = ["on", (5, 6), (1, 0, 1, 0)]
        wrong = ((errors.InvalidName, names), (errors.InvalidPoints, sinks), (errors.InvalidOperation, numbers))
        for place, (error, values) in enumerate(wrong):
            for value in values:
                self.refused(self.desk, self.desk.watch, [*right[:place], value, *right[place + 1:]], error)
            for further in range(place + 1, 3):
                for number, value in enumerate(values):
                    arguments = [*right[:place], value, *right[place + 1:]]
                    arguments[further] = wrong[further][1][number % len(wrong[further][1])]
                    self.refused(self.desk, self.desk.watch, arguments, error)
        # The sum is told behind all these, ahead of a name that is used.
        for name in ("go", "on"):
            for some in ((6, 0, 0, 1), (1, 3, 0, 0), (6, 6, 6, 6), (2, 2, 1, 0)):
                self.refused(self.desk, self.desk.watch, [name, (5, 6), some], errors.TooMany, 6)
                self.refused(self.desk, self.desk.watch, [name, (0, 6), some], errors.InvalidPoints)
        self.refused(self.desk, self.desk.watch, ["go", (5, 6), (6, 0, 0, 0)], errors.Refused, ("watch",))
        self.refused(self.desk, self.desk.watch, ["on", (7,), (1, 0, 0, 0)], errors.InvalidPoints)
        self.desk.edit((("point",),))
        self.assertIsNone(self.desk.watch("abcdefgh", (7,), (1, 0, 0, 5)))

    def test_names_of_no_watch(self):
        for method in (self.desk.unwatch, self.desk.answer, self.desk.paper, self.desk.changed):
            for value in [*junk(), 0, 1, "", "Go", "on", "g", "go ", ("go",), ["go"], {"go": 1}, Net(2, ())]:
                self.refused(self.desk, method, [value], errors.UnknownName, value)
        self.desk.unwatch("go")
        for method in (self.desk.unwatch, self.desk.answer, self.desk.paper, self.desk.changed):
            self.refused(self.desk, method, ["go"], errors.UnknownName, "go")

    def test_undo(self):
        for value in [*junk(), 0, -1, -5, "1", (1,), [1], -10 ** 59]:
            self.refused(self.desk, self.desk.undo, [value], errors.InvalidNumber)
            with self.assertRaises(errors.InvalidNumber) as caught:
                self.desk.undo(many=value)
            self.assertTrue(caught.exception.given is value or caught.exception.given == value)
        for value in (3, 4, 401, 10 ** 59):
            self.refused(self.desk, self.desk.undo, [value], errors.NothingToUndo, value)
        self.desk.undo(many=2)
        self.assertEqual([self.desk.done, self.desk.watches], [0, ()])


class NoneIsTrue(unittest.TestCase):
    """[20.6]"""

    def test_a_link_on_a_way_that_is_taken(self):
        desk = Desk(Net(3, ((0, 1), (0, 1), (1, 2))))
        desk.watch("w", (2,), (1, 0, 0, 0))
        desk.edit((("take", 0),))
        self.assertEqual(desk.changed("w"), (("kept", 1), ("kept", 1)))

    def test_an_edit_that_leaves_answers_but_no_papers(self):
        desk = Desk(Net(3, ((0, 1), (0, 1), (1, 2))))
        desk.watch("w", (2,), (1, 0, 0, 0))
        paper = desk.paper("w")
        desk.edit((("take", 0),))
        self.assertEqual(desk.changed("w"), (("kept", 1), ("kept", 1)))
        self.assertEqual(
            [is_plan_or_cut(desk.net, (2,), (1, 0, 0, 0), 2, one) for one in (paper, desk.paper("w"))], [False, True],
        )

    def test_a_link_more_that_changes_no_answer(self):
        desk = Desk(Net(3, ((0, 1), (1, 2))))
        desk.watch("w", (2,), (1, 0, 0, 0))
        desk.edit((("put", 0, 1),))
        self.assertEqual(desk.changed("w"), (("kept", 1), ("kept", 1)))
