"""Programs and values that several tests use."""

TURN = """symbols ab
main
  while not at >
    right
  left
  while not at <
    copy
    left"""

TWICE = """symbols ab
main
  while not at >
    copy
    right
  while not at <
    left
  while not at >
    copy
    right"""

LAST = """symbols ab
cell n 1
main
  while not at >
    right
  left
  if at a
    set n 1
  while not at <
    left
  if n = 1
    write x
  else
    write y"""

LOOP_AT_B = "symbols ab\nmain\n  right\n  while at b\n    write x"

# All seventeen words that no cell and no part may be called.
WORDS = (
    "symbols cell part main right left write copy set add if else while do stop at not"
).split()


def nested(kind, depth):
    """A value of lists, tuples or dicts that is nested that deep."""
    value = "a"
    for _ in range(depth):
        value = {list: [value], tuple: (value,), dict: {"a": value}}[kind]
    return value


# Every kind that counts as any value, but for strings.
NO_STRINGS = [
    0, 1, -1, 3, 10 ** 30, -(10 ** 5000), True, False, None,
    (), ("a",), ("a", "b"), [], ["a"], ["symbols ab", "main"], {}, {"a": "b"}, {1: None, (1, 2): [True]},
    nested(list, 30), nested(tuple, 30), nested(dict, 30), [(None, {"x": [("ab",)]})],
]


def program_text(*body, symbols="ab", head=()):
    """The text of a program with these lines in the body of main."""
    return "\n".join([f"symbols {symbols}", *head, "main", *["  " + line for line in body]])

# Three sweeps back, one for each symbol: what a pass writes depends on three numbers.
THREE_BACK = """symbols abc
main
  while not at >
    right
  while not at <
    if at a
      copy
    left
  while not at >
    right
  while not at <
    if at b
      copy
    left
  while not at >
    right
  while not at <
    if at c
      copy
    left"""

# Classes of prefixes and of suffixes: 10 and 60.
SIXTY_SUFFIXES = """symbols abyz
cell n 2
main
  add n 1
  while not at >
    add n 2
    right
  while not at <
    if at a
      add n 2
    if not n = 0
      left
    left
  if not at b
    if not at by
      if at ab
        copy
  while not at <
    copy
    copy
    if not at a
      right
    left"""

# 8 and 61.
ONE_SUFFIX_MORE = """symbols abyz
cell n 2
cell m 2
main
  while not at >
    copy
    right
  while not at <
    left
  while not at >
    if at <b
      add m 1
    if not m = 1
      add n 2
    else
      if not at y
        set n 0
    right
  while not at <
    copy
    left"""

# 63 and 5.
MANY_PREFIXES = """symbols ab
cell n 2
cell m 1
main
  copy
  while not at >
    right
  while not at <
    write z
    if not m = 1
      if at <b
        add n 1
      else
        add m 2
    if not n = 1
      left
    left
  while not at >
    if not at <a
      set m 0
    right
  copy
  while not at <
    left"""

# The chain of these two: 60 and 12.
SIXTY_PREFIXES = (
    """symbols xy
cell n 2
main
  while not at >
    add n 2
    right
  while not at <
    if at x
      if at <
        add n 2
      else
        write a
    if at y
      add n 1
    if at x>
      left
    left
  while not at >
    right""",
    """symbols ab
cell n 1
main
  while not at >
    if at b>
      set n 1
    right
  while not at <
    if n = 1
      if n = 0
        add n 1
      else
        add n 2
    if not at b>
      add n 1
    else
      add n 1
    left""",
)

# The chain of these two: 61 and 6.
ONE_PREFIX_MORE = (
    """symbols ab
cell n 2
main
  set n 2
  while not at >
    if n = 1
      write b
    else
      add n 1
    right
  add n 2
  while not at <
    if not n = 0
      if not at b
        add n 1
      else
        copy
    left""",
    """symbols ab
cell n 2
main
  while not at >
    if n = 1
      if n = 2
        copy
    right
  while not at <
    add n 1
    if not n = 1
      copy
    left""",
)

# The least writer of its sixth pass has 3 left states and 40 right ones.
FORTY_STATES = """symbols ab
cell n 2
main
  while not at >
    right
  while not at <
    left
  while not at >
    add n 2
    right
  while not at <
    if n = 2
      copy
    else
      if not at b
        copy
    left"""

# That of its seventh pass has 2 and 41.
ONE_RIGHT_STATE_MORE = """symbols xy
cell n 2
cell m 1
main
  while not at >
    add m 1
    right
  while not at <
    left
  while not at >
    if not n = 0
      stop
    right
  while not at <
    if not m = 1
      if n = 2
        write x
    if not at y
      add n 1
    left"""

# That of its fourth pass has 41 and 13.
ONE_LEFT_STATE_MORE = """symbols abyz
cell n 2
main
  while not at >
    add n 1
    right
  while not at <
    if at <y
      write z
    left
  while not at >
    if not n = 0
      if not n = 1
        write x
      else
        copy
    if at ab
      if at by
        copy
    right
  while not at >
    right"""

NEXT = """symbols ab
cell n 1
main
  right
  while not at >
    right
    if at a
      set n 1
    left
    if n = 1
      write x
    set n 0
    right"""

# 200 classes of prefixes for the word bbaazb, 201 for abbyaa.
TWO_HUNDRED = """symbols abyz
cell n 2
main
  while not at >
    if at <z
      set n 1
    right
  while not at <
    copy
    if n = 0
      left
    left
  while not at >
    set n 0
    right
  while not at <
    if not at <
      right
    left"""
