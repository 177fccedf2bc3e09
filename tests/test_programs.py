"""Section 4: programs that are valid, their properties, equality."""

import copy
import unittest

from fewgoings.errors import BadProgram
from fewgoings.programs import Program
from tests.randoms import Maker
from tests.reference import first_bad_line
from tests.samples import LAST, LOOP_AT_B, NO_STRINGS, TURN, TWICE, WORDS, program_text

RICH = """symbols bkz
cell ready 1
cell many 2
part p
  if not at >
    right
  else
    write q
part second
  do p
  while not many = 2
    if at <b
      add many 2
      add ready 1
    else
      if not ready = 1
        stop
      else
        set many 0
main
  do second
  do p
  left"""


def lines_of_main(many):
    return ["right"] * many


class ProgramTest(unittest.TestCase):
    def properties(self, text):
        program = Program(text)
        self.assertIs(program.text, text)
        return program.symbols, program.cells, program.parts, program.letters

    def test_the_example_of_the_document(self):
        self.assertEqual(self.properties(LAST), ("ab", (("n", 1),), (), ("x", "y")))

    def test_the_other_programs_of_the_document(self):
        self.assertEqual(self.properties(TURN), ("ab", (), (), ("a", "b")))
        self.assertEqual(self.properties(TWICE), ("ab", (), (), ("a", "b")))
        self.assertEqual(self.properties(LOOP_AT_B), ("ab", (), (), ("x",)))

    def test_cells_and_parts_in_their_order(self):
        self.assertEqual(
            self.properties(RICH),
            ("bkz", (("ready", 1), ("many", 2)), ("p", "second"), ("q",)),
        )

    def test_kinds_of_the_properties(self):
        program = Program(text=RICH)
        for value in (program.cells, program.parts, program.letters, *program.cells):
            self.assertIs(type(value), tuple)
        self.assertEqual([type(most) for _, most in program.cells], [int, int])
        self.assertIs(type(program.symbols), str)

    def test_properties_are_there_on_each_object(self):
        self.assertLessEqual({"text", "symbols", "cells", "parts", "letters"}, set(vars(Program(TURN))))

    def test_two_to_four_symbols(self):
        for symbols in ("ab", "az", "bcz", "abcd", "wxyz"):
            self.assertEqual(Program(program_text("right", symbols=symbols)).symbols, symbols)

    def test_letters(self):
        for body, letters in [
            (["right"], ()),
            (["copy"], ("a", "b")),
            (["write z", "write c", "write z"], ("c", "z")),
            (["write z", "copy", "write b"], ("a", "b", "z")),
            (["stop", "write x"], ("x",)),
            (["while at >", "  if at <", "    left", "  else", "    write y"], ("y",)),
        ]:
            self.assertEqual(Program(program_text(*body)).letters, letters)

    def test_letters_of_a_part_that_is_never_done(self):
        head = ["part p", "  write m", "  write c"]
        self.assertEqual(Program(program_text("right", head=head)).letters, ("c", "m"))
        head = ["part p", "  copy"]
        self.assertEqual(Program(program_text("write k", head=head, symbols="xyz")).letters, ("k", "x", "y", "z"))

    def test_each_statement(self):
        head = ["cell n 1", "cell m 2", "part p", "  right"]
        for line in ["right", "left", "copy", "stop", "do p", "set n 0", "set n 1", "set m 0", "set m 1",
                     "set m 2", "add n 1", "add n 2", "add m 1", "add m 2",
                     *["write " + letter for letter in "abcdefghijklmnopqrstuvwxyz"]]:
            Program(program_text(line, head=head))
            Program(program_text("if at a", "  " + line, "else", "  " + line, head=head))

    def test_each_form_of_condition(self):
        head = ["cell n 1", "cell m 2"]
        for condition in ["at <", "at >", "at <>", "at a", "at c", "at abc", "at <abc>", "at ac", "at <b>",
                          "at bc>", "n = 0", "n = 1", "m = 0", "m = 1", "m = 2"]:
            for negation in ("", "not "):
                for word in ("if", "while"):
                    line = f"{word} {negation}{condition}"
                    Program(program_text(line, "  right", head=head, symbols="abc"))

    def test_names_of_one_to_eight_letters(self):
        for name in ("a", "z", "b", "abcdefgh", "sets", "ats", "parts", "mains", "i", "cells", "most"):
            Program(program_text(f"set {name} 1", head=[f"cell {name} 1"]))
            Program(program_text(f"do {name}", head=[f"part {name}", "  right"]))

    def test_twenty_statements_without_else(self):
        Program(program_text(*lines_of_main(20)))
        body = ["if at a", "  right", "else", "  right"] * 6
        Program(program_text(*body, "left", "left"))
        Program(program_text(*lines_of_main(10), head=["part p", *["  right"] * 10]))

    def test_four_bodies(self):
        Program(program_text("while at a", "  if at b", "    while at >", "      right", "    left", "  copy"))
        Program(program_text("if at a", "  right", "else", "  if at b", "    right", "  else", "    if at >",
                             "      left", "    else", "      copy"))
        head = ["part p", "  while at a", "    if at b", "      while at >", "        right"]
        Program(program_text("do p", head=head))

    def test_a_body_may_end_within_several_bodies_at_once(self):
        Program(program_text("while at a", "  if at b", "    if at >", "      right", "right"))
        Program(program_text("if at a", "  if at b", "    right", "else", "  left"))

    def test_a_part_may_do_the_part_above(self):
        Program(program_text("do q", "do p", head=["part p", "  right", "part q", "  do p", "  do p"]))

    def test_random_programs_are_accepted(self):
        for seed in range(300):
            text = Maker(seed).program()
            self.assertIsNone(first_bad_line(text))
            self.assertEqual(Program(text).text, text)

    def test_equal_if_the_texts_are(self):
        self.assertEqual(Program(TURN), Program("".join(list(TURN))))
        self.assertFalse(Program(TURN) != Program(TURN))
        self.assertNotEqual(Program(TURN), Program(TWICE))
        self.assertNotEqual(Program(program_text("copy")), Program(program_text("copy", "stop")))

    def test_equal_nothing_else(self):
        program = Program(TURN)
        for value in [TURN, "", *NO_STRINGS, Program, (TURN, "ab", (), (), ("a", "b"))]:
            self.assertFalse(program == value)
            self.assertFalse(value == program)
            self.assertTrue(program != value)


class BadProgramTest(unittest.TestCase):
    def refused(self, text, line):
        with self.assertRaises(BadProgram) as caught:
            Program(text)
        value = caught.exception.value
        self.assertEqual((value, type(value)), (line, int), text if isinstance(text, str) else type(text))

    def refused_body(self, at, *body, head=(), symbols="ab"):
        """The line at fault, counted from 1, within the body of main."""
        self.refused(program_text(*body, head=head, symbols=symbols), 2 + len(head) + at)

    def refused_head(self, at, *head):
        """The line at fault, counted from 1, within the lines between symbols and main."""
        self.refused(program_text("right", head=head), 1 + at)

    def test_the_example_of_the_document(self):
        self.refused("symbols ab\nmain\n  while at ba\n    right", 3)

    def test_values_that_are_no_strings(self):
        for value in NO_STRINGS + [[TURN], (TURN,), {"text": TURN}, b"symbols ab\nmain\n  right"]:
            kept = copy.deepcopy(value)
            self.refused(value, 0)
            self.assertEqual(value, kept)

    def test_the_argument_by_name(self):
        with self.assertRaises(BadProgram) as caught:
            Program(text="symbols ab")
        self.assertEqual(caught.exception.value, 2)

    def test_the_empty_text_has_one_line(self):
        self.refused("", 1)

    def test_the_line_of_symbols(self):
        for line in ["symbols", "symbols a", "symbols ba", "symbols aa", "symbols abb", "symbols abcde",
                     "symbols aB", "symbols a1", "symbols AB", "symbols a b", "symbols ab c", "symbol ab",
                     "Symbols ab", " symbols ab", "  symbols ab", "symbols  ab", "symbols ab ", "symbols <a",
                     "ab", "main", "symbols\tab", "cell n 1", "symbols \u00e4\u00f6", "symbols ab\r", "symbols abca"]:
            self.refused(line + "\nmain\n  right", 1)

    def test_lines_missing_at_the_end(self):
        for text in ["symbols ab", "symbols ab\ncell n 1", "symbols ab\ncell n 1\ncell m 1",
                     "symbols ab\nmain", "symbols ab\npart p", "symbols ab\npart p\n  right",
                     "symbols ab\npart p\n  right\npart q\n  right",
                     "symbols ab\nmain\n  if at a", "symbols ab\nmain\n  while at a",
                     "symbols ab\nmain\n  if at a\n    right\n  else",
                     "symbols ab\nmain\n  if at a\n    if at b\n      while at >"]:
            self.refused(text, len(text.split("\n")) + 1)

    def test_cells(self):
        for line in ["cell", "cell n", "cell n 0", "cell n 3", "cell n 01", "cell n -1", "cell n x", "cell n 1 1",
                     "cell 1 n", "cell N 1", "cell n1 1", "cell n_ 1", "cell abcdefghi 1", "cell  n 1", "cell n 1 ",
                     "cells n 1", " cell n 1", "  cell n 1", "cell \u00e4 1", "cell n \u0661", "cell n 1.0", "cell n +1"]:
            self.refused_head(1, line)
            self.refused_head(2, "cell m 1", line)

    def test_a_third_cell(self):
        self.refused_head(3, "cell n 1", "cell m 2", "cell k 1")

    def test_a_cell_below_a_part_or_main(self):
        self.refused_head(3, "part p", "  right", "cell n 1")
        self.refused("symbols ab\nmain\n  right\ncell n 1", 4)
        self.refused("symbols ab\nmain\n  cell n 1", 3)

    def test_parts(self):
        for line in ["part", "part p q", "part P", "part p1", "part abcdefghi", "part  p", "part p ", "parts p",
                     " part p", "  part p", "part <", "part 1"]:
            self.refused_head(1, line, "  right")
            self.refused_head(3, "part m", "  left", line, "  right")

    def test_a_third_part(self):
        self.refused_head(5, "part p", "  right", "part q", "  right", "part r", "  right")

    def test_names_that_are_used_twice(self):
        self.refused_head(2, "cell n 1", "cell n 2")
        self.refused_head(2, "cell n 1", "part n", "  right")
        self.refused_head(3, "part p", "  right", "part p", "  left")
        self.refused_head(5, "cell n 1", "cell m 1", "part p", "  right", "part m", "  left")

    def test_each_of_the_seventeen_words_as_a_name(self):
        self.assertEqual(len(WORDS), 17)
        for word in WORDS:
            self.refused_head(1, f"cell {word} 1")
            self.refused_head(2, "cell n 1", f"cell {word} 2")
            self.refused_head(1, f"part {word}", "  right")
            self.refused_head(3, "part p", "  right", f"part {word}", "  right")

    def test_main(self):
        for line in ["Main", "main main", "main ", " main", "  main", "mains", "", " ", "right", "main:"]:
            self.refused(f"symbols ab\n{line}\n  right", 2)
            self.refused(f"symbols ab\ncell n 1\npart p\n  right\n{line}\n  right", 5)

    def test_lines_behind_the_body_of_main(self):
        for line in ["main", "part p", "cell n 1", "symbols ab", "", "right", " right", "   right", "    right",
                     "else", "  else", "  main"]:
            self.refused(f"symbols ab\nmain\n  right\n{line}", 4)
            self.refused(f"symbols ab\nmain\n  right\n{line}\n  right", 4)

    def test_a_line_feed_at_the_end_begins_an_empty_line(self):
        self.refused(TURN + "\n", 9)
        self.refused("\n" + TURN, 1)

    def test_no_line_is_broken_but_by_a_line_feed(self):
        for sign in ("\r", "\x0b", "\x0c", "\x1c", "\x85", "\u2028"):
            self.refused(f"symbols ab{sign}main\n  right", 1)
            self.refused(f"symbols ab\nmain\n  right{sign}  left", 3)

    def test_statements_of_no_form(self):
        head = ["cell n 1", "part p", "  right"]
        for line in ["rights", "right right", "right 1", "left a", "copy a", "stop 0", "write", "write ab", "write A",
                     "write 1", "write <", "write >", "write a b", "write n 1", "write \u00e4", "set", "set n",
                     "set n = 1", "set n 1 1", "set 1 n", "set m 1", "set p 1", "add", "add n", "add n 1 1",
                     "add m 1", "add p 1", "do", "do n", "do q", "do p p", "do main", "else", "if", "while", "main",
                     "part q", "cell m 1", "symbols ab", "Right", "right\t", "\tright", "n = 1", "at a", "not at a",
                     "not right"]:
            self.refused_body(1, line, "  right", head=head)
            self.refused_body(2, "right", line, head=head)
            self.refused_body(3, "while at a", "  copy", "  " + line, head=head)

    def test_values_out_of_range(self):
        head = ["cell n 1", "cell m 2"]
        for line in ["set n 2", "set n 3", "set m 3", "set n -1", "set n 00", "set n 01", "set m 10", "set n a",
                     "set n \u0661", "set n +1", "add n 0", "add m 0", "add n 3", "add m 3", "add n -1", "add n 01",
                     "add m 11", "add n a"]:
            self.refused_body(1, line, head=head)
        for condition in ["n = 2", "m = 3", "n = -1", "n = 00", "n = a"]:
            for word in ("if", "while", "if not", "while not"):
                self.refused_body(1, f"{word} {condition}", "  right", head=head)

    def test_conditions_of_no_form(self):
        head = ["cell n 1", "part p", "  right"]
        for condition in ["", "at", "at ba", "at aa", "at <<", "at ><", "at >a", "at a<", "at d", "at <d", "at a b",
                          "at A", "at ab>>", "not", "not not at a", "at not a", "n", "n =", "n 1", "n == 1", "= 1",
                          "n = 1 1", "m = 1", "p = 1", "1 = n", "at = 1", "not n", "n not = 1", "at <b<", "a", "<",
                          "at n", "n=1", "at a and n = 1", "at ,"]:
            for word in ("if", "while"):
                self.refused_body(1, f"{word} {condition}".rstrip(" "), "  right", head=head)
                self.refused_body(2, "copy", f"{word} {condition}", "  right", head=head)

    def test_a_part_that_is_not_defined_above(self):
        self.refused_body(1, "do p")
        self.refused_head(2, "part p", "  do p")
        self.refused_head(4, "part p", "  right", "  right", "  do p")
        self.refused_head(2, "part p", "  do q", "part q", "  right")
        self.refused_head(4, "part p", "  right", "part q", "  do q")

    def test_a_twenty_first_statement(self):
        self.refused_body(21, *lines_of_main(21))
        self.refused_body(21, *lines_of_main(25))
        self.refused_body(26, *["if at a", "  right", "else", "  right"] * 6, "left", "left", "left",
                          head=["part p", "  right"])
        self.refused_body(1, "right", head=["part p", *["  right"] * 10, "part q", *["  left"] * 10])
        self.refused_head(22, "part p", *["  right"] * 21)

    def test_a_twenty_first_statement_in_a_body_of_the_twentieth(self):
        self.refused_body(21, *lines_of_main(19), "while at a", "  right")
        self.refused_body(21, *lines_of_main(19), "while at a")
        self.refused_body(22, *lines_of_main(18), "if at a", "  right", "else", "  right")

    def test_a_fifth_body(self):
        body = ["while at a", "  if at b", "    while at >", "      while at a"]
        self.refused_body(5, *body, "        right")
        self.refused_body(5, *body)
        self.refused_body(5, *body, "      right")
        self.refused_body(4, *body[:3], "      do p", "        right")
        self.refused_body(10, "if at a", "  right", "else", "  if at b", "    right", "  else", "    if at >",
                          "      right", "      if at >", "        right")
        self.refused_body(5, "if at a", "  if at b", "    while at >", "      if at a", "        right", "else",
                          "  right")

    def test_indentation_that_does_not_fit(self):
        for indent in (0, 1, 3, 4, 5, 6):
            self.refused("symbols ab\nmain\n" + " " * indent + "right", 3)
        for indent in (0, 1, 3, 4, 5, 6):
            self.refused("symbols ab\nmain\n  right\n" + " " * indent + "right\n  left", 4)
        for indent in (0, 1, 2, 3, 5, 6, 8):
            self.refused("symbols ab\nmain\n  while at a\n" + " " * indent + "right", 4)
        for indent in (0, 1, 3, 5, 6, 8):
            self.refused("symbols ab\nmain\n  while at a\n    right\n" + " " * indent + "right", 5)
        self.refused("symbols ab\nmain\n\tright", 3)

    def test_a_line_that_stands_where_a_body_must_begin(self):
        for line in ["main", "part q", "  right", "  else", "else", "    else", "      right"]:
            self.refused(f"symbols ab\nmain\n  if at a\n{line}\n    right", 4)
        self.refused("symbols ab\npart p\nmain\n  right", 3)
        self.refused("symbols ab\nmain\n  if at a\n    right\n  else\n  right", 6)
        self.refused("symbols ab\nmain\n  if at a\n    right\n  else\n  else\n    right", 6)

    def test_blanks(self):
        for line in ["  right ", "  write  a", "  write a ", "  if  at a", "  if at  a", "  if at a ", "", " ", "  "]:
            self.refused(f"symbols ab\nmain\n{line}\n    right", 3)
            self.refused(f"symbols ab\nmain\n  copy\n{line}\n    right", 4)

    def test_empty_lines(self):
        lines = RICH.split("\n")
        for at in range(len(lines) + 1):
            for line in ("", "  ", "    "):
                self.refused("\n".join([*lines[:at], line, *lines[at:]]), at + 1)

    def test_an_else_that_follows_no_if(self):
        self.refused_body(1, "else", "  right")
        self.refused_body(2, "right", "else", "  right")
        self.refused_body(3, "while at a", "  right", "else", "  left")
        self.refused_body(5, "if at a", "  right", "else", "  left", "else", "  left")
        self.refused_body(4, "if at a", "  right", "left", "else", "  left")
        self.refused_body(3, "if at a", "  right", "  else", "    left")
        self.refused_body(3, "if at a", "  if at b", "  else", "    left")
        self.refused_body(4, "if at a", "  if at b", "    right", "    else", "      right")
        self.refused_body(4, "while at a", "  if at b", "    right", "else", "  right")
        self.refused_body(3, "if at a", "  right", "else at a", "  left")
        self.refused_body(3, "if at a", "  right", "else if at b", "  left")

    def test_the_first_line_of_several(self):
        self.refused("symbols ba\ncell n 3\nmain\n  x", 1)
        self.refused("symbols ab\ncell n 3\nmain\n  x", 2)
        self.refused("symbols ab\ncell n 2\nmain\n  x\n\n", 4)
        self.refused("symbols ab\ncell n 2\nmain\n  while at a\n  x\n\n", 5)

    def test_spoiled_programs_are_refused_at_the_same_line_as_by_the_reference(self):
        refused = 0
        for seed in range(400):
            maker = Maker(seed)
            text = maker.program()
            for _ in range(10):
                spoiled = maker.spoiled(text)
                line = first_bad_line(spoiled)
                if line is None:
                    self.assertEqual(Program(spoiled).text, spoiled)
                else:
                    self.refused(spoiled, line)
                    refused += 1
        self.assertGreater(refused, 3000)
