"""Programs and values that several tests use."""

TURN = """symbols ab
main
  while not at >
    right
  left
  while not at <
    copy
    left"""

TWICE = """symbols ab
main
  while not at >
    copy
    right
  while not at <
    left
  while not at >
    copy
    right"""

LAST = """symbols ab
cell n 1
main
  while not at >
    right
  left
  if at a
    set n 1
  while not at <
    left
  if n = 1
    write x
  else
    write y"""

LOOP_AT_B = "symbols ab\nmain\n  right\n  while at b\n    write x"

# All seventeen words that no cell and no part may be called.
WORDS = (
    "symbols cell part main right left write copy set add if else while do stop at not"
).split()


def nested(kind, depth):
    """A value of lists, tuples or dicts that is nested that deep."""
    value = "a"
    for _ in range(depth):
        value = {list: [value], tuple: (value,), dict: {"a": value}}[kind]
    return value


# Every kind that counts as any value, but for strings.
NO_STRINGS = [
    0, 1, -1, 3, 10 ** 30, -(10 ** 5000), True, False, None,
    (), ("a",), ("a", "b"), [], ["a"], ["symbols ab", "main"], {}, {"a": "b"}, {1: None, (1, 2): [True]},
    nested(list, 30), nested(tuple, 30), nested(dict, 30), [(None, {"x": [("ab",)]})],
]


def program_text(*body, symbols="ab", head=()):
    """The text of a program with these lines in the body of main."""
    return "\n".join([f"symbols {symbols}", *head, "main", *["  " + line for line in body]])
