"""How many passes a machine needs on all texts."""

from fewgoings.errors import BadNumber, OtherSymbols
from fewgoings.heights import greatest, groups_of, heights_of, least_highest, ring_of
from fewgoings.nearing import Nearing
from fewgoings.passes import passes
from fewgoings.tables import Classes
from fewgoings.texts import check_text, is_number, is_text
from fewgoings.ways import Ways

MOST_PASSES = 100


def needs(machine, *, within=None, turns=False):
    """How many passes all texts need that count.

    ("needs", n, text, heights) if some text needs the most; ("endless", ahead, ring, behind) if
    each repetition of ring needs more; None if no text counts. OtherSymbols, TooMany.
    """
    ways = ways_of(machine, within, turns)
    if not ways.starts:
        return None
    steps = ways.reached()
    groups = groups_of(steps)
    ring = ring_of(ways.classes, steps, groups)
    if ring is not None:
        return ring
    heights = heights_of(ways, steps, groups)
    writing = [suffix for suffix in ways.starts if ways.writes(suffix)]
    many = 1 + greatest(ways, heights) if writing else 0
    text = least_highest(ways, steps, heights, writing if writing else ways.starts)
    return "needs", many, text, table_of(ways.classes, heights)


def ways_of(machine, within, turns):
    """The Ways of the texts that count."""
    if within is None:
        return Ways(Classes([machine]), turns)
    if within.symbols != machine.symbols:
        raise OtherSymbols(within)
    return Ways(Classes([machine, within]), turns)


def table_of(classes, heights):
    """The ascending tuple of (prefix, suffix, height), in least texts."""
    rows = [
        (classes.prefixes[prefix], classes.suffixes[suffix], height)
        for (prefix, suffix), height in heights.items()
    ]
    return tuple(sorted(rows))


def shows_needs(machine, value, *, within=None, turns=False):
    """Whether any value is something that needs may return, with any texts and any table."""
    ways = ways_of(machine, within, turns)
    if value is None:
        return not ways.starts
    if not isinstance(value, tuple) or len(value) != 4:
        return False
    word, *rest = value
    if word == "endless":
        return is_ring(ways, machine, rest)
    if word != "needs":
        return False
    many, text, table = rest
    if not is_number(many) or not is_text(machine, text) or not ways.counts(ways.classes.suffix_of(text)):
        return False
    return len(passes(machine, text, turns=turns)) == many and is_table(ways, machine, table, many)


def is_ring(ways, machine, texts):
    """Whether three values are texts ahead of a ring that costs something, the ring and behind it."""
    if not all([is_text(machine, text) for text in texts]):
        return False
    ahead, ring, behind = texts
    gaps = ways.classes.gaps(ahead, ring, behind)
    if gaps[0] != gaps[-1] or not ways.counts(ways.classes.suffix_of(ahead + ring + behind)):
        return False
    steps = list(zip(gaps, ring, gaps[1:]))
    return any([ways.cost(gap[0], symbol, other[1]) > 0 for gap, symbol, other in steps])


def is_table(ways, machine, value, many):
    """Whether a value is a table for a number of passes."""
    if not isinstance(value, tuple) or not all([is_row(machine, row) for row in value]):
        return False
    if sorted(set(value)) != list(value):
        return False
    tops = {}
    for prefix, suffix, height in value:
        pair = (ways.classes.prefix_of(prefix), ways.classes.suffix_of(suffix))
        tops[pair] = max(height, tops.get(pair, height))
    if not is_closed(ways, tops):
        return False
    if many == 0:
        return is_all_silent(ways, tops)
    ends = [top + ways.last_cost(prefix) for (prefix, suffix), top in tops.items() if suffix == 0]
    return all([end < many for end in ends])


def is_row(machine, value):
    """Whether a value is a row of a table: two texts and an integer."""
    if not isinstance(value, tuple) or len(value) != 3:
        return False
    prefix, suffix, height = value
    return is_text(machine, prefix) and is_text(machine, suffix) and is_number(height)


def is_closed(ways, tops):
    """Whether all pairs that a text that counts comes by have at least the height that it needs."""
    for suffix in ways.starts:
        if (0, suffix) not in tops or tops[0, suffix] < ways.first_cost(suffix):
            return False
    for pair, top in tops.items():
        for _, other, cost in ways.steps_from(pair):
            if other not in tops or tops[other] < top + cost:
                return False
    return True


def is_all_silent(ways, tops):
    """Whether nothing is written at the marks and at the symbols that a table looks at."""
    looks = [(0, "<", suffix) for suffix in ways.starts]
    for prefix, suffix in tops:
        looks.extend([(prefix, symbol, rest) for symbol, rest in ways.classes.splits[suffix]])
        if suffix == 0:
            looks.append((prefix, ">", 0))
    return all([ways.is_silent(*look) for look in looks])


def nearest(machine, text, most, *, turns=False):
    """(changes, other): how few symbols must be replaced to need at most most passes, and the least such text.

    None if there is no such text of this length. TooMany, BadText, BadNumber.
    """
    ways = ways_of(machine, None, turns)
    check_text(machine, text)
    if not is_number(most) or not 0 <= most <= MOST_PASSES:
        raise BadNumber(most)
    return Nearing(ways, text, most).nearest()
