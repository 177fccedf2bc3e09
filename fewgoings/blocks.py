"""Blocks: long rows of signs, put together of parts that may occur in them again and again."""


class Block:
    """A row of signs.

    sign is the one sign of a block without parts, otherwise "". parts has (offset, block) for each
    part: a position in the part is that much greater in the whole. length is the number of
    positions, where each sign has one of its own.
    """

    def __init__(self, sign, parts, length):
        self.sign = sign
        self.parts = parts
        self.length = length


def single(sign):
    """The block of one sign."""
    return Block(sign, (), 1)


def in_a_row(blocks):
    """The block of some blocks one behind the other."""
    parts = []
    length = 0
    for block in blocks:
        parts.append((length, block))
        length += block.length
    return Block("", tuple(parts), length)


def repeated(block, times):
    """A block as often as times says."""
    powers = []
    while times > 0:
        if times & 1:
            powers.append(block)
        times = times // 2
        block = in_a_row([block, block])
    return powers[0] if len(powers) == 1 else in_a_row(powers)


def block_of(far):
    """The block of a far text."""
    return block_by(far, {})


def block_by(far, known):
    """The block of a far text; known has blocks for the pieces that occurred before."""
    rows = []
    for piece, times in far:
        block = piece_by(piece, known) if isinstance(piece, str) else block_by(piece, known)
        rows.append(repeated(block, times))
    return in_a_row(rows)


def piece_by(piece, known):
    """The block of a string; known has blocks for the strings that occurred before."""
    if piece not in known:
        signs = [piece_by(sign, known) for sign in piece] if len(piece) > 1 else []
        known[piece] = in_a_row(signs) if signs else single(piece)
    return known[piece]


def marked_block(block):
    """A block with the marks, so that each sign has its position in the text."""
    return in_a_row([single("<"), block, single(">")])


def cut(block, first, last):
    """The blocks, one behind the other, of the positions from first to last of a block."""
    if first <= 0 and last >= block.length - 1:
        return [block]
    found = []
    for offset, part in block.parts:
        if first < offset + part.length and offset <= last:
            found.extend(cut(part, first - offset, last - offset))
    return found


def sign_at(block, position):
    """The sign at a position of a block."""
    while not block.sign:
        place = [(offset, part) for offset, part in block.parts if position < offset + part.length][0]
        block, position = place[1], position - place[0]
    return block.sign
