"""Slices (put, first, last): the symbols with the indices from first to last of what was put in as number put."""


def length_of(slices):
    """How many symbols slices have."""
    return sum([last - first + 1 for _, first, last in slices])


def parted(slices, many):
    """(front, rest): the slices of the first so many symbols, and those of all others."""
    front, rest = [], []
    for put, first, last in slices:
        size = min(many, last - first + 1)
        if size > 0:
            front.append((put, first, first + size - 1))
        if first + size <= last:
            rest.append((put, first + size, last))
        many -= size
    return front, rest


def taken(slices, first, last):
    """(inner, others): the slices of the symbols from one position to another, and those without them."""
    front, rest = parted(slices, first - 1)
    inner, behind = parted(rest, last - first + 1)
    return inner, front + behind


def joined_slices(slices):
    """Slices, those joined to one that follow one another in the text and in the same put."""
    joined = []
    for put, first, last in slices:
        if joined and joined[-1][0] == put and joined[-1][2] + 1 == first:
            joined[-1] = (put, joined[-1][1], last)
        else:
            joined.append((put, first, last))
    return tuple(joined)


def identity_in(slices, position):
    """(put, index) of the symbol at a position."""
    for put, first, last in slices:
        if position <= last - first + 1:
            break
        position -= last - first + 1
    return put, first + position - 1


def position_in(slices, identity):
    """The position of the symbol with an identity, None if there is none."""
    number, index = identity
    position = 1
    for put, first, last in slices:
        if put == number and first <= index <= last:
            return position + index - first
        position += last - first + 1
    return None
