"""Section 5: runs and configurations of programs."""

import copy
import types
import unittest

from fewgoings.errors import BadText
from fewgoings.programs import Program
from fewgoings.runs import configurations, run
from tests.machines import main
from tests.randoms import Maker
from tests.reference import walk
from tests.samples import LAST, LOOP_AT_B, NO_STRINGS, TURN, TWICE


def rows(program, text):
    return list(configurations(program, text))


class RunTest(unittest.TestCase):
    def test_the_example_of_the_document(self):
        program = Program(LOOP_AT_B)
        self.assertEqual(
            [run(Program(TURN), "ab"), run(program, "b"), rows(program, "a")],
            [("done", (("b", 2), ("a", 1))), ("ever", 1, 3), [((3,), (), 0), ((4,), (), 1), ((), (), 1)]],
        )

    def test_the_other_programs_of_the_document(self):
        self.assertEqual(run(Program(TWICE), "ab"), ("done", (("a", 1), ("b", 2), ("a", 1), ("b", 2))))
        self.assertEqual(run(Program(LAST), "ba"), ("done", (("x", 0),)))
        self.assertEqual(run(Program(LAST), "ab"), ("done", (("y", 0),)))
        self.assertEqual(run(Program(LAST), ""), ("done", (("y", 0),)))

    def test_stop_ends_the_run_where_the_head_is(self):
        program = main("right", "write x", "stop", "write y")
        self.assertEqual(run(program, "ab"), ("done", (("x", 1),)))
        self.assertEqual(rows(program, "ab")[-2:], [((5,), (), 1), ((), (), 1)])

    def test_stop_in_a_part_and_in_a_body_ends_the_whole_run(self):
        program = main("while not at >", "  do p", "write y",
                       head=["cell n 1", "part p", "  set n 1", "  if at <b", "    stop"])
        self.assertEqual(run(program, "a"), ("done", ()))
        self.assertEqual(rows(program, "a"), [
            ((8,), (0,), 0), ((9,), (0,), 0), ((9, 4), (0,), 0), ((9, 5), (1,), 0), ((9, 6), (1,), 0), ((), (1,), 0),
        ])

    def test_right_at_the_right_mark_ends_the_run(self):
        program = main("while not at >", "  right", "write x", "right", "write y")
        self.assertEqual(run(program, "ab"), ("done", (("x", 3),)))
        self.assertEqual(rows(program, "ab")[-2:], [((6,), (), 3), ((), (), 3)])

    def test_left_at_the_left_mark_ends_the_run(self):
        program = main("write x", "left", "write y")
        self.assertEqual(run(program, "ab"), ("done", (("x", 0),)))
        self.assertEqual(rows(program, "ab")[-2:], [((4,), (), 0), ((), (), 0)])

    def test_walking_off_a_mark_in_a_part(self):
        for word, position in (("left", 0), ("right", 2)):
            program = main("while not at b", "  do p", "write y", head=["part p", f"  {word}"])
            self.assertEqual(run(program, "a"), ("done", ()))
            self.assertEqual(rows(program, "a")[-1], ((), (), position))

    def test_the_last_right_or_left_moves_before_the_end(self):
        self.assertEqual(rows(main("right"), "a"), [((3,), (), 0), ((), (), 1)])
        self.assertEqual(rows(main("right"), ""), [((3,), (), 0), ((), (), 1)])
        self.assertEqual(rows(main("right", "right"), ""), [((3,), (), 0), ((4,), (), 1), ((), (), 1)])
        self.assertEqual(rows(main("right", "left"), "a"), [((3,), (), 0), ((4,), (), 1), ((), (), 0)])
        self.assertEqual(rows(main("left"), "a"), [((3,), (), 0), ((), (), 0)])

    def test_a_right_within_bodies_that_nothing_follows(self):
        program = main("if at <", "  if at <", "    right", "  else", "    left", "else", "  left")
        self.assertEqual(rows(program, "a"), [((3,), (), 0), ((4,), (), 0), ((5,), (), 0), ((), (), 1)])
        program = main("do q", head=["part p", "  right", "part q", "  do p"])
        self.assertEqual(rows(program, "a"), [((7,), (), 0), ((7, 5), (), 0), ((7, 5, 3), (), 0), ((), (), 1)])

    def test_a_right_that_a_while_follows(self):
        program = main("while at <", "  right")
        self.assertEqual(rows(program, "a"), [((3,), (), 0), ((4,), (), 0), ((3,), (), 1), ((), (), 1)])

    def test_the_end_of_main_after_other_statements(self):
        self.assertEqual(rows(main("write x"), ""), [((3,), (), 0), ((), (), 0)])
        self.assertEqual(run(main("write x"), ""), ("done", (("x", 0),)))
        self.assertEqual(rows(main("copy"), "a"), [((3,), (), 0), ((), (), 0)])
        self.assertEqual(rows(main("if at a", "  copy"), "a"), [((3,), (), 0), ((), (), 0)])
        self.assertEqual(rows(main("while at a", "  copy"), "a"), [((3,), (), 0), ((), (), 0)])
        self.assertEqual(rows(main("set n 1", head=["cell n 1"]), ""), [((4,), (0,), 0), ((), (1,), 0)])

    def test_if_and_else(self):
        program = main("right", "if at a", "  write x", "else", "  write y", "write z")
        self.assertEqual(run(program, "a")[1], (("x", 1), ("z", 1)))
        self.assertEqual(run(program, "b")[1], (("y", 1), ("z", 1)))
        self.assertEqual(rows(program, "a"), [((3,), (), 0), ((4,), (), 1), ((5,), (), 1), ((8,), (), 1), ((), (), 1)])
        self.assertEqual(rows(program, "b"), [((3,), (), 0), ((4,), (), 1), ((7,), (), 1), ((8,), (), 1), ((), (), 1)])
        program = main("right", "if at a", "  write x", "write z")
        self.assertEqual(run(program, "b")[1], (("z", 1),))

    def test_each_condition(self):
        for condition, signs in [
            ("at <", "<"), ("at >", ">"), ("at a", "a"), ("at <b", "<b"), ("at ab", "ab"), ("at <ab>", "<ab>"),
            ("not at <", "ab>"), ("not at ab", "<>"), ("not at <ab>", ""), ("at b>", "b>"), ("at a>", "a>"),
        ]:
            program = main("while at <ab", f"  if {condition}", "    write x", "  right",
                           f"if {condition}", "  write x")
            where = tuple(("x", "<ab>".index(sign)) for sign in signs)
            self.assertEqual(run(program, "ab"), ("done", where), condition)

    def test_conditions_on_cells(self):
        for value in (0, 1, 2):
            for other in (0, 1, 2):
                for negation in ("", "not "):
                    program = main(f"set m {other}", f"set n {value}", f"if {negation}n = 1", "  write x",
                                   head=["cell m 2", "cell n 2"])
                    expected = (("x", 0),) if (value == 1) != bool(negation) else ()
                    self.assertEqual(run(program, ""), ("done", expected))

    def test_cells_begin_with_nought(self):
        program = main("if n = 0", "  if m = 0", "    write x", head=["cell n 1", "cell m 2"])
        self.assertEqual(run(program, ""), ("done", (("x", 0),)))
        self.assertEqual(rows(program, "")[0], ((5,), (0, 0), 0))

    def test_cells_come_round_by_add(self):
        for most, number, values in [(1, 1, (1, 0, 1, 0)), (1, 2, (0, 0, 0, 0)),
                                     (2, 1, (1, 2, 0, 1)), (2, 2, (2, 1, 0, 2))]:
            program = main(*[f"add n {number}"] * 4, head=["cell k 2", f"cell n {most}"])
            self.assertEqual([cells for _, cells, _ in rows(program, "")], [(0, value) for value in (0, *values)])

    def test_set_and_add_change_their_cell_alone(self):
        program = main("set n 2", "set m 1", "add n 1", "add m 1", "set n 1", head=["cell n 2", "cell m 2"])
        self.assertEqual([cells for _, cells, _ in rows(program, "")],
                         [(0, 0), (2, 0), (2, 1), (0, 1), (0, 2), (1, 2)])

    def test_writing_at_the_marks(self):
        program = main("write x", "while not at >", "  right", "write y", "write z")
        self.assertEqual(run(program, "ba"), ("done", (("x", 0), ("y", 3), ("z", 3))))
        self.assertEqual(run(program, ""), ("done", (("x", 0), ("y", 1), ("z", 1))))

    def test_copy_writes_the_symbol_and_at_the_marks_nothing(self):
        program = main("copy", "while not at >", "  right", "  copy", "  copy", "copy", symbols="abc")
        self.assertEqual(run(program, "cab")[1], tuple(zip("ccaabb", (1, 1, 2, 2, 3, 3))))
        self.assertEqual(run(program, ""), ("done", ()))

    def test_letters_are_no_symbols(self):
        program = main("right", "write z", "left", "right", "copy")
        self.assertEqual(run(program, "b"), ("done", (("z", 1), ("b", 1))))

    def test_do_statements_under_way(self):
        program = main("do q", "write z", head=["part p", "  right", "  write x", "part q", "  do p", "  while at a",
                                                "    do p", "  write y"])
        self.assertEqual(run(program, "ab"), ("done", (("x", 1), ("x", 2), ("y", 2), ("z", 2))))
        self.assertEqual(rows(program, "ab"), [
            ((11,), (), 0), ((11, 6), (), 0), ((11, 6, 3), (), 0), ((11, 6, 4), (), 1), ((11, 7), (), 1),
            ((11, 8), (), 1), ((11, 8, 3), (), 1), ((11, 8, 4), (), 2), ((11, 7), (), 2), ((11, 9), (), 2),
            ((12,), (), 2), ((), (), 2),
        ])

    def test_after_the_end_of_a_part_comes_what_follows_its_do(self):
        head = ["part p", "  if at a", "    write x", "part q", "  do p"]
        program = main("while not at >", "  right", "  if at ab", "    do q", "  else", "    do p", head=head)
        self.assertEqual(run(program, "aba"), ("done", (("x", 1), ("x", 3))))
        self.assertEqual(rows(program, "")[1:], [
            ((9,), (), 0), ((10,), (), 1), ((13,), (), 1), ((13, 3), (), 1), ((8,), (), 1), ((), (), 1),
        ])

    def test_runs_that_do_not_end(self):
        program = main("while at <", "  copy")
        self.assertEqual(run(program, ""), ("ever", 0, 2))
        self.assertEqual(rows(program, ""), [((3,), (), 0), ((4,), (), 0), ((3,), (), 0)])
        program = main("write x", "while not at c", "  add n 1", head=["cell n 2"], symbols="abc")
        self.assertEqual(run(program, ""), ("ever", 1, 7))
        program = main("while not at c", "  right", "  left", symbols="abc")
        self.assertEqual(run(program, "a"), ("ever", 0, 3))
        program = main("right", "right", "while at b", "  left", "  right")
        self.assertEqual(run(program, "ab"), ("ever", 2, 5))
        self.assertEqual(run(program, "aa"), ("done", ()))

    def test_the_rows_of_a_run_that_does_not_end_close_with_the_one_that_comes_back(self):
        for program, text in [(Program(LOOP_AT_B), "b"), (main("while at <", "  do p", head=["part p", "  copy"]), "")]:
            word, first, again = run(program, text)
            found = rows(program, text)
            self.assertEqual((word, len(found)), ("ever", again + 1))
            self.assertEqual(found[first], found[again])
            self.assertEqual(len({repr(row) for row in found[:-1]}), again)

    def test_kinds_of_what_is_returned(self):
        result = run(Program(TURN), "ab")
        for value in (result, result[1], *result[1], run(Program(LOOP_AT_B), "b")):
            self.assertIs(type(value), tuple)
        program = main("set n 1", "add n 1", "write x", "right", head=["cell n 1"])
        for row in configurations(program, "a"):
            self.assertEqual([type(value) for value in row], [tuple, tuple, int])
            self.assertEqual({type(value) for value in (*row[0], *row[1])}, {int})

    def test_configurations_is_a_generator(self):
        found = configurations(Program(TURN), "ab")
        self.assertIsInstance(found, types.GeneratorType)
        self.assertEqual(next(found), ((3,), (), 0))
        self.assertEqual(next(found), ((4,), (), 0))
        other = configurations(Program(TURN), "ab")
        self.assertEqual(next(other), ((3,), (), 0))
        self.assertEqual(next(found), ((3,), (), 1))

    def test_arguments_by_name_and_equal_calls(self):
        program = Program(LAST)
        self.assertEqual(run(machine=program, text="ba"), run(program, "ba"))
        self.assertEqual(run(text="ba", machine=Program(LAST)), run(program, "ba"))
        self.assertEqual(list(configurations(program=program, text="ba")), rows(program, "ba"))
        self.assertEqual(list(configurations(text="ba", program=program)), rows(Program(LAST), "ba"))

    def test_a_run_changes_nothing_about_the_program(self):
        program = Program(LAST)
        before = [copy.deepcopy(getattr(program, name)) for name in ("text", "symbols", "cells", "parts", "letters")]
        results = [run(program, text) for text in ("", "a", "ab")]
        self.assertEqual([run(program, text) for text in ("", "a", "ab")], results)
        after = [getattr(program, name) for name in ("text", "symbols", "cells", "parts", "letters")]
        self.assertEqual(before, after)

    def test_a_text_of_a_hundred_symbols_and_more(self):
        for many in (100, 101, 5000):
            text = ("ab" * many)[:many]
            output = run(Program(TURN), text)[1]
            self.assertEqual(output, tuple((text[at - 1], at) for at in range(many, 0, -1)))
            self.assertEqual(len(rows(Program(TURN), text)), 5 * many + 6)

    def test_random_programs_as_by_the_reference(self):
        outcomes = []
        for seed in range(600):
            maker = Maker(seed)
            text = maker.program()
            program = Program(text)
            for word in ["", *[maker.text(program.symbols) for _ in range(3)]]:
                expected, result = walk(text, word)
                self.assertEqual(rows(program, word), expected, (text, word))
                self.assertEqual(run(program, word), result, (text, word))
                outcomes.append(result[0])
        self.assertGreater(outcomes.count("done"), 1000)
        self.assertGreater(outcomes.count("ever"), 100)


class BadTextTest(unittest.TestCase):
    def refused(self, program, value):
        kept = copy.deepcopy(value)
        with self.assertRaises(BadText) as caught:
            run(program, value)
        self.assertIs(caught.exception.value, value)
        with self.assertRaises(BadText) as caught:
            next(configurations(program, value))
        self.assertIs(caught.exception.value, value)
        self.assertEqual(value, kept)

    def test_values_that_are_no_strings(self):
        for value in [*NO_STRINGS, ["a", "b"], ("a", "b"), {"a": 1, "b": 2}, [], (), {}]:
            self.refused(Program(TURN), value)

    def test_strings_with_other_signs(self):
        for value in ["c", "abc", "cab", "A", "a b", " ", "ab\n", "\n", "<", ">", "<ab>", "a1", "\u00e4",
                      "ab" * 50 + "c"]:
            self.refused(Program(TURN), value)

    def test_symbols_between_the_symbols_and_letters_that_are_written(self):
        self.refused(main("right", symbols="az"), "am")
        self.refused(main("write x"), "x")

    def test_a_value_that_is_no_text_of_a_run_that_does_not_end(self):
        self.refused(Program(LOOP_AT_B), "bx")
