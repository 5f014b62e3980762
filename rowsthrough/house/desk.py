"""The desk."""

from rowsthrough.base.fields import PRIMES
from rowsthrough.base.reckoning import is_from, is_whole
from rowsthrough.errors import InvalidName, InvalidNumber, InvalidOperation, InvalidText, NothingToUndo, ParseError
from rowsthrough.errors import Refused, RowError, TooMany, UnknownName
from rowsthrough.link.linkcodes import MOST_SIZE
from rowsthrough.net.nets import MOST_LINKS, MOST_POINTS, Net, is_link, need_net, need_sinks, with_link, without_links
from rowsthrough.texts.texts import number_in, numbers_in
from rowsthrough.whole.plans import are_numbers, plan_or_cut, room, size_of

MOST_WATCHES = 8
MOST_DONE = 400
MOST_CHANGES = 8
MOST_PLACE = 20
MOST_LETTERS = 8


def is_name(value):
    """Whether the value is a string of 1 to 8 of the letters a to z."""
    if not isinstance(value, str) or not 1 <= len(value) <= MOST_LETTERS:
        return False
    return all(["a" <= sign <= "z" for sign in value])


def is_change(value):
    """Whether the value is a change."""
    if not isinstance(value, tuple) or not value:
        return False
    if not all([is_from(place, 0, MOST_PLACE) for place in value[1:]]):
        return False
    return (value[0], len(value)) in (("put", 3), ("take", 2), ("point", 1))


def are_changes(value):
    """Whether the value is a tuple of 1 to 8 changes."""
    if not isinstance(value, tuple) or not 1 <= len(value) <= MOST_CHANGES:
        return False
    return all([is_change(change) for change in value])


def changed_net(net, change):
    """The net with the change, None if it cannot be done."""
    if change[0] == "point":
        return None if net.points == MOST_POINTS else Net(net.points + 1, net.links)
    if change[0] == "take":
        return without_links(net, change[1:]) if change[1] < len(net.links) else None
    if not is_link(net.points, change[1:]) or len(net.links) == MOST_LINKS:
        return None
    return with_link(net, change[1], change[2])[0]


def edited_net(net, changes):
    """The net with all changes: Refused with the first one that cannot be done."""
    for place, change in enumerate(changes):
        net = changed_net(net, change)
        if net is None:
            raise Refused(("change", place))
    return net


class Watch:
    """Sinks and numbers that are watched, since so many things were done."""

    def __init__(self, sinks, numbers, since):
        self.sinks = sinks
        self.numbers = numbers
        self.since = since

    def answer(self, net):
        """The answer for the net."""
        most = room(net, self.sinks)
        return ("kept" if size_of(self.numbers) <= most else "barred"), most

    def paper(self, net):
        """A code that keeps the numbers in the net, or a cut that bars them."""
        base = [q for q in PRIMES if q >= len(self.sinks)][0]
        return plan_or_cut(net, self.sinks, self.numbers, base)


class Desk:
    """A net that is edited, and watches over it.

    Besides what the document lists it keeps `first`, the net ahead of all that was done; `table`, the watches
    by their names; `things`, what was done, as tuples; `ahead`, for each of these the net and the table ahead
    of it. Tables are not changed, but replaced.
    """

    def __init__(self, net):
        need_net(net)
        self.net = net
        self.done = 0
        self.watches = ()
        self.first = net
        self.table = {}
        self.things = []
        self.ahead = []

    def __eq__(self, other):
        return isinstance(other, Desk) and self.first == other.first and self.things == other.things

    def become(self, net, table):
        """Have the net and the table."""
        self.net = net
        self.table = table
        self.watches = tuple(sorted([name for name in table]))
        self.done = len(self.things)

    def go_on(self, thing, net, table):
        """Do the thing, which leads to the net and the table."""
        if self.done == MOST_DONE:
            raise TooMany(MOST_DONE)
        self.ahead.append((self.net, self.table))
        self.things.append(thing)
        self.become(net, table)

    def need_watch(self, name):
        """Raise UnknownName unless the name is that of a watch."""
        if not isinstance(name, str) or name not in self.table:
            raise UnknownName(name)

    def edit(self, changes):
        """Do all of the changes, or none."""
        if not are_changes(changes):
            raise InvalidOperation("not 1 to 8 changes")
        self.go_on(("edit", changes), edited_net(self.net, changes), self.table)

    def watch(self, name, sinks, numbers):
        """Begin to watch."""
        if not is_name(name):
            raise InvalidName("not 1 to 8 letters")
        need_sinks(self.net, sinks)
        if not are_numbers(numbers):
            raise InvalidOperation("no such numbers")
        if size_of(numbers) > MOST_SIZE:
            raise TooMany(MOST_SIZE)
        if name in self.table:
            raise Refused(("watch",))
        if len(self.table) == MOST_WATCHES:
            raise TooMany(MOST_WATCHES)
        table = dict(self.table)
        table[name] = Watch(sinks, numbers, self.done)
        self.go_on(("watch", name, sinks, numbers), self.net, table)

    def unwatch(self, name):
        """End to watch."""
        self.need_watch(name)
        table = {other: self.table[other] for other in self.table if other != name}
        self.go_on(("unwatch", name), self.net, table)

    def answer(self, name):
        """The answer to the watch."""
        self.need_watch(name)
        return self.table[name].answer(self.net)

    def paper(self, name):
        """What shows that the answer to the watch is right."""
        self.need_watch(name)
        return self.table[name].paper(self.net)

    def changed(self, name):
        """The answers ahead of the last edit since the watch began, and now."""
        self.need_watch(name)
        watch = self.table[name]
        places = [place for place in range(watch.since, self.done) if self.things[place][0] == "edit"]
        if not places:
            raise Refused(("edit",))
        return watch.answer(self.ahead[places[-1]][0]), watch.answer(self.net)

    def undo(self, many=1):
        """Take the last things back, so many."""
        if not is_whole(many) or many < 1:
            raise InvalidNumber(many)
        if many > self.done:
            raise NothingToUndo(many)
        left = self.done - many
        net, table = self.ahead[left]
        del self.ahead[left:]
        del self.things[left:]
        self.become(net, table)

    def log(self):
        """The text of the first net, and of all that was done."""
        return "\n".join([net_line(self.first)] + [thing_line(thing) for thing in self.things])

    def twin(self):
        """An equal desk that goes its own ways."""
        other = Desk(self.first)
        other.things = list(self.things)
        other.ahead = list(self.ahead)
        other.become(self.net, self.table)
        return other


def joined(mark, numbers):
    """The numbers with the mark between them."""
    return mark.join([str(number) for number in numbers])


def net_line(net):
    """The line of the net."""
    links = ",".join([joined("-", link) for link in net.links])
    return f"net {net.points} {links}" if links else f"net {net.points} -"


def change_text(change):
    """The change as the log tells it."""
    if change[0] == "put":
        return "put " + joined("-", change[1:])
    return joined(" ", change)


def thing_line(thing):
    """The line of a thing that was done."""
    if thing[0] == "edit":
        return "edit " + "; ".join([change_text(change) for change in thing[1]])
    if thing[0] == "watch":
        return " ".join(["watch", thing[1], joined(",", thing[2]), joined(" ", thing[3])])
    return "unwatch " + thing[1]


def net_in(line):
    """The net that the line tells: an error if it tells none."""
    words = line.split(" ")
    if len(words) != 3 or words[0] != "net":
        raise InvalidText("no line of a net")
    links = [] if words[2] == "-" else [numbers_in(link.split("-")) for link in words[2].split(",")]
    return Net(number_in(words[1]), tuple(links))


def change_in(text):
    """The change that is told so, if one is."""
    words = text.replace("-", " ").split(" ")
    return (words[0],) + numbers_in(words[1:])


def do_line(desk, line):
    """Do what the line tells at the desk: an error if it cannot be done."""
    kind, _, rest = line.partition(" ")
    words = rest.split(" ")
    if kind == "edit":
        desk.edit(tuple([change_in(text) for text in rest.split("; ")]))
    elif kind == "watch" and len(words) == 6:
        desk.watch(words[0], numbers_in(words[1].split(",")), numbers_in(words[2:]))
    elif kind == "unwatch":
        desk.unwatch(rest)
    else:
        raise InvalidText("no line of a log")


def desk_after(desk, line):
    """The desk behind the line, made by it if there is none: an error if it cannot be done, or is written otherwise."""
    if desk is None:
        made = Desk(net_in(line))
        written = net_line(made.net)
    else:
        made = desk
        do_line(made, line)
        written = thing_line(made.things[-1])
    if written != line:
        raise InvalidText("no line of a log")
    return made


def read_log(text):
    """The desk with the log."""
    if not isinstance(text, str):
        raise InvalidText("no string")
    desk = None
    for index, line in enumerate(text.split("\n")):
        try:
            desk = desk_after(desk, line)
        except (RowError, TooMany, Refused, UnknownName):
            raise ParseError(index) from None
    return desk
