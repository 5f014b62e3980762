"""Claims and their checker."""

from rowsthrough.base.matrices import is_inverted, is_word_solved
from rowsthrough.bent.telling import is_telling
from rowsthrough.code.decoding import is_near_answer
from rowsthrough.errors import InvalidNumber, InvalidOperation, RowError, TooMany
from rowsthrough.hide.hiding import is_hiding
from rowsthrough.link.allsinks import is_code_or_cut
from rowsthrough.link.linkcodes import is_had_from
from rowsthrough.net.flows import is_ways_or_cut
from rowsthrough.net.plain import is_to_all
from rowsthrough.whole.changes import is_loss
from rowsthrough.whole.plans import is_plan_or_cut

# For each kind the opposite one, how many members stand behind it, and of what kinds its papers are.
KINDS = {
    "solved": ("barred", 3, ("solution",)),
    "barred": ("solved", 3, ("barred",)),
    "inverted": ("lost", 2, ("inverse",)),
    "lost": ("inverted", 2, ("lost",)),
    "near": ("far", 5, ("near",)),
    "far": ("near", 5, ("far", "apart")),
    "ways": ("cut", 3, ("ways",)),
    "cut": ("ways", 3, ("cut",)),
    "had": ("wanting", 6, ("sum",)),
    "wanting": ("had", 6, ("barred",)),
    "for all": ("too few", 4, ("code",)),
    "too few": ("for all", 4, ("cut",)),
    "tells": ("mixes", 5, ("tells",)),
    "mixes": ("tells", 5, ("two",)),
    "hides": ("leaks", 3, ("hides",)),
    "leaks": ("hides", 3, ("leak",)),
    "planned": ("unplanned", 4, ("plan",)),
    "unplanned": ("planned", 4, ("cut",)),
    "copied": ("starved", 2, ("plan",)),
    "starved": ("copied", 2, ("point",)),
    "spared": ("needed", 3, ("stays",)),
    "needed": ("spared", 3, ("falls",)),
}


def judged(kind, members, paper):
    """Whether the paper is right for the claim of this kind, or for its opposite."""
    if kind in ("solved", "barred"):
        return is_word_solved(*members, paper)
    if kind in ("inverted", "lost"):
        return is_inverted(*members, paper)
    if kind in ("near", "far"):
        return is_near_answer(*members, paper)
    if kind in ("ways", "cut"):
        return is_ways_or_cut(*members, paper)
    if kind in ("had", "wanting"):
        return is_had_from(*members, paper)
    if kind in ("for all", "too few"):
        return is_code_or_cut(*members, paper)
    if kind in ("tells", "mixes"):
        return is_telling(*members, paper)
    if kind in ("hides", "leaks"):
        return is_hiding(*members, paper)
    if kind in ("planned", "unplanned"):
        return is_plan_or_cut(*members, paper)
    if kind in ("copied", "starved"):
        return is_to_all(*members, paper)
    return is_loss(*members, paper)


def has_large_base(kind, members):
    """Whether the base is at least the number of sinks, where there are both."""
    if kind in ("for all", "too few", "planned", "unplanned"):
        return members[3] >= len(members[1])
    return True


def kinds():
    """The kinds of claims."""
    return tuple(sorted([kind for kind in KINDS]))


def is_claim(value):
    """Whether the value is a claim."""
    if not isinstance(value, tuple) or not value or not isinstance(value[0], str) or value[0] not in KINDS:
        return False
    kind, members = value[0], value[1:]
    if len(members) != KINDS[kind][1]:
        return False
    try:
        judged(kind, members, None)
    except (RowError, InvalidNumber, TooMany):
        return False
    return has_large_base(kind, members)


def need_claim(claim):
    """Raise InvalidOperation unless this is a claim."""
    if not is_claim(claim):
        raise InvalidOperation("no claim")


def opposite(claim):
    """The claim of the opposite kind with the same members."""
    need_claim(claim)
    return (KINDS[claim[0]][0],) + claim[1:]


def takes(claim, paper):
    """Whether the paper is one for the claim."""
    need_claim(claim)
    if not isinstance(paper, tuple) or not paper:
        return False
    kind, members = claim[0], claim[1:]
    return paper[0] in KINDS[kind][2] and judged(kind, members, paper)
