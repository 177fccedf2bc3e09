"""The greatest costs on the ways of all texts that count, or a ring that costs something."""

from fewgoings.graphs import components, least_texts
from fewgoings.texts import least_text


def ring_of(classes, steps, groups):
    """("endless", ahead, ring, behind) if some ring of steps has a cost, otherwise None."""
    for pairs in groups:
        group = {pair: True for pair in pairs}
        for pair in pairs:
            for symbol, other, cost in steps[pair]:
                if cost and other in group:
                    ring = symbol + least_texts([pair], sources_of(steps), True)[other]
                    return "endless", classes.prefixes[pair[0]], ring, classes.suffixes[pair[1]]
    return None


def groups_of(steps):
    """The pairs in groups of those on common rings, in an order in which no step leads back."""
    return components({pair: [other for _, other, _ in row] for pair, row in steps.items()})


def sources_of(steps):
    """For each pair the (symbol, pair) from which a step leads to it."""
    sources = {pair: [] for pair in steps}
    for pair, row in steps.items():
        for symbol, other, _ in row:
            sources[other].append((symbol, pair))
    return sources


def heights_of(ways, steps, groups):
    """For each pair the greatest sum of the costs on a way there; no ring of steps has a cost."""
    heights = {(0, suffix): ways.first_cost(suffix) for suffix in ways.starts}
    for pairs in groups:
        height = max([heights[pair] for pair in pairs if pair in heights])
        for pair in pairs:
            heights[pair] = height
            for _, other, cost in steps[pair]:
                heights[other] = max(heights.get(other, 0), height + cost)
    return heights


def least_highest(ways, steps, heights, starts):
    """The least text that begins in one of the starts and has the greatest costs that there are."""
    top = greatest(ways, heights)
    tight = {}
    for pair, row in steps.items():
        tight[pair] = [step for step in row if heights[step[1]] == heights[pair] + step[2]]
    ends = [pair for pair in heights if pair[1] == 0 and heights[pair] + ways.last_cost(pair[0]) == top]
    texts = least_texts(ends, sources_of(tight), True)
    firsts = [(0, suffix) for suffix in starts if heights[0, suffix] == ways.first_cost(suffix)]
    return least_text([texts[pair] for pair in firsts if pair in texts])


def greatest(ways, heights):
    """The greatest sum of the costs of all positions of a text that counts."""
    return max([height + ways.last_cost(prefix) for (prefix, suffix), height in heights.items() if suffix == 0])
