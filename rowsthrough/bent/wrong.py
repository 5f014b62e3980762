"""Wrong and silent links."""

from rowsthrough.base.fields import need_field
from rowsthrough.base.reckoning import are_digits, digits_of, less, packed, packed_all, unit_rows, unpacked_all
from rowsthrough.errors import InvalidLinks, InvalidOperation
from rowsthrough.link.linkcodes import led, need_carried, need_link_code, need_mixing, need_source_words, vector_rows
from rowsthrough.net.nets import is_lot, need_lot, need_net


def are_wrong(net, field, value):
    """Whether the value is an ascending tuple of pairs of a link and a word."""
    if not isinstance(value, tuple) or not all([isinstance(pair, tuple) and len(pair) == 2 for pair in value]):
        return False
    if not all([are_digits(field.q, field.m, word) for _, word in value]):
        return False
    return is_lot(links_of(value), len(net.links))


def links_of(wrong):
    """The links that are wrong."""
    return tuple([link for link, _ in wrong])


def need_wrong(net, field, wrong):
    """Raise InvalidLinks unless these are wrong links."""
    if not are_wrong(net, field, wrong):
        raise InvalidLinks("no wrong links")


def need_bent(net, field, wrong, silent):
    """Raise the first error unless these are wrong and silent links, and no link is both."""
    need_wrong(net, field, wrong)
    need_lot(net, silent)
    if any([link in silent for link in links_of(wrong)]):
        raise InvalidOperation("a link is wrong and silent")


def led_bent(net, field, code, begun, wrong, silent):
    """The packed words that all links carry, `begun` being the packed source words."""
    added = [0] * len(net.links)
    for link, word in wrong:
        added[link] = packed(word)
    return led(net, field.q, field.m, code, begun, added, silent)


def transfer_columns(net, q, n, code, silent):
    """For each link the packed row of how many times a word added on any link is carried there."""
    many = len(net.links)
    return led(net, q, many, code, [0] * n, unit_rows(many), silent)


def is_wrong(net, field, value):
    """Whether the value is wrong links."""
    need_net(net)
    need_field(field)
    return are_wrong(net, field, value)


def is_silent(net, value):
    """Whether the value is silent links."""
    need_net(net)
    return is_lot(value, len(net.links))


def bent_words(net, field, n, code, words, wrong, silent):
    """The words that all links carry."""
    need_carried(net, field, n, code)
    need_source_words(field, n, words)
    need_bent(net, field, wrong, silent)
    return unpacked_all(field, led_bent(net, field, code, packed_all(words), wrong, silent))


def added_words(net, field, n, code, wrong, silent):
    """What all links carry more because of the wrong ones."""
    need_carried(net, field, n, code)
    need_bent(net, field, wrong, silent)
    return unpacked_all(field, led_bent(net, field, code, [0] * n, wrong, silent))


def transfer(net, q, n, code, silent):
    """The transfer rows of all links."""
    need_mixing(net, q, n)
    need_link_code(net, q, n, code)
    need_lot(net, silent)
    many = len(net.links)
    columns = [digits_of(many, column) for column in transfer_columns(net, q, n, code, silent)]
    return tuple([tuple([column[link] for column in columns]) for link in range(many)])


def silent_vectors(net, q, n, code, silent):
    """The vectors of all links, those of silent ones being zero."""
    need_mixing(net, q, n)
    need_link_code(net, q, n, code)
    need_lot(net, silent)
    return tuple([digits_of(n, row) for row in vector_rows(net, q, n, code, silent)])


def as_wrong(net, field, n, code, words, silent):
    """The wrong links with which all links carry what they do with the silent ones."""
    need_carried(net, field, n, code)
    need_source_words(field, n, words)
    need_lot(net, silent)
    begun, found = packed_all(words), []
    for place, link in enumerate(silent):
        # What the link would carry hangs on those ahead of it alone.
        found.append(less(field, 0, led_bent(net, field, code, begun, (), silent[:place])[link]))
    return tuple(zip(silent, unpacked_all(field, found)))
