"""Far texts to test with."""

from tests.samples import NO_STRINGS


def text_of(far):
    """A far text written out."""
    return "".join((piece if isinstance(piece, str) else text_of(piece)) * times for piece, times in far)


def drawn_far(rnd, symbols, depth=2, most=120, pairs=3):
    """A nested far text of not too many symbols."""
    while True:
        far = drawn_pairs(rnd, symbols, depth, pairs)
        if len(text_of(far)) <= most:
            return far


def drawn_pairs(rnd, symbols, depth, pairs):
    rows = []
    for _ in range(rnd.randint(1, pairs)):
        if depth > 1 and rnd.random() < 0.5:
            rows.append((drawn_pairs(rnd, symbols, depth - 1, pairs), rnd.randint(1, 4)))
        else:
            rows.append(("".join(rnd.choice(symbols) for _ in range(rnd.randint(1, 3))), rnd.randint(1, 5)))
    return tuple(rows)


def deep(depth, times=1):
    """A far text that is nested so deep."""
    far = (("ab", times),)
    for _ in range(depth - 1):
        far = ((far, times),)
    return far


# Far texts at the limits.
AT_THE_LIMITS = [
    (("a", 1),), (("a", 10 ** 18),), (("ab" * 10, 1),), tuple(("ab"[at % 2], at + 1) for at in range(6)), deep(4), deep(4, 3),
    (((("a", 10 ** 6),), 10 ** 18),), (((("ab" * 10, 5 * 10 ** 4),), 10 ** 18),),
    (((("a", 10 ** 12),), 10 ** 12 - 1), ("b", 10 ** 12)),
    ((((((((("a", 10 ** 6),), 10 ** 6),), 10 ** 6),), 10 ** 6)),),
]

# What is no far text of the symbols ab.
NO_FARS = [
    "", "ab", "ab*3", ("ab", 1), (("ab",),), (("ab", 1, 1),), (("", 1),), (("a" * 21, 1),), (("ab", 0),), (("ab", -1),),
    (("ab", 10 ** 18 + 1),), (("ab", True),), (("ab", "1"),), (("ab", None),), (("ab", (1,)),), (("ab", [1]),), [("ab", 1)],
    (["ab", 1],), ((["a"], 1),), (([("ab", 1)], 1),), ((("ab",), 1),), (((), 1),), ((("ab", 1), 1),), (("a", 1),) * 7,
    (((("a", 1),) * 7, 1),), deep(5), ((deep(4), 1), ("a", 1)), (("a", 1), ("A", 1)), (("a b", 1),), (("a\n", 1),), (("<", 1),),
    (("a1", 1),), (("\xe4", 1),), ((None, 1),), ((1, "a"),), ((True, 1),), (("ab", 1), None), (("ab", 1), ()), {"ab": 1},
    (((("a", 10 ** 6),), 10 ** 18), ("a", 1)), (((("a", 10 ** 6 + 1),), 10 ** 18),), (((("ab" * 10, 5 * 10 ** 4 + 1),), 10 ** 18),),
    (((("a", 10 ** 12),), 10 ** 12), ("b", 1)), deep(4, 10 ** 18), *NO_STRINGS,
]
