"""What is written in a stretch of a run, so far as the number of passes depends on it."""


class Tally:
    """A sum of what is written.

    many is the number of letters; first and last are the positions of the first and the last one.
    descents is the number of descents. begin and end tell the first and the last direction in which
    positions change from letter to letter, 1 or -1, 0 if they do not; turns is how often it changes.
    """

    def __init__(self, many, first, last, descents, begin, end, turns):
        self.many = many
        self.first = first
        self.last = last
        self.descents = descents
        self.begin = begin
        self.end = end
        self.turns = turns

    def many_passes(self):
        """How many passes from left to right are needed."""
        return 1 + self.descents if self.many else 0

    def many_turns(self):
        """How many passes by turns are needed."""
        if self.many == 0:
            return 0
        return 1 + self.turns + (1 if self.begin == -1 else 0)


def at_one_place(many):
    """The Tally of so many letters at position 0."""
    return Tally(many, 0, 0, 0, 0, 0, 0)


def moved(tally, offset):
    """A Tally with all positions greater by an offset."""
    return Tally(
        tally.many, tally.first + offset, tally.last + offset, tally.descents, tally.begin, tally.end, tally.turns,
    )


def followed(one, other, offset):
    """The Tally of a stretch and of another one after it whose positions are greater by an offset."""
    if other.many == 0:
        return one
    other = moved(other, offset)
    if one.many == 0:
        return other
    between = sign_of(other.first - one.last)
    begin, end, turns = joined_turns([(one.begin, one.end, one.turns), (between, between, 0),
                                      (other.begin, other.end, other.turns)])
    descents = one.descents + other.descents + (1 if between == -1 else 0)
    return Tally(one.many + other.many, one.first, other.last, descents, begin, end, turns)


def sign_of(number):
    """1, 0 or -1 for a number above, of, or below 0."""
    return (number > 0) - (number < 0)


def joined_turns(rows):
    """(begin, end, turns) of several such rows one after the other."""
    begin = end = turns = 0
    for first, last, many in rows:
        if first != 0:
            turns += many + (1 if end == -first else 0)
            begin = first if begin == 0 else begin
            end = last
    return begin, end, turns
