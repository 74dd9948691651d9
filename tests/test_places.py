"""Promises 15, 16 and 17: parts, uses, params."""

import unittest

from calling import (
    EXAMPLE, FARTHEST, LONG_NAME, Tells, chunk, cut, ended, file, lines, move, params, parts, put, read, refile, rename,
    reparam, run, texts, uses,
)

NO_FORM = ("", " ", "a ", " a", "A", "a  b", "\x00", "\xff", "\n", "@", "n" * 41, "a\n")


class Parts(Tells):
    TEXT = "a\n" + chunk("a") + file("a", "@{b}") + chunk("b(x)") + "b\n" + chunk("a", "@{a}") + file("f/g") + file("a")

    def test_of_a_chunk_and_of_a_file(self):
        self.tells(self.TEXT, parts(0, "a"), [2, 1, 5])
        self.tells(self.TEXT, parts(1, "a"), [2, 2, 7])
        self.tells(self.TEXT, parts(0, "b"), [1, 3])
        self.tells(self.TEXT, parts(1, "f/g"), [1, 6])
        self.tells(EXAMPLE, parts(0, "greet"), [1, 2])
        self.tells(EXAMPLE, parts(1, "main.txt"), [1, 1])

    def test_a_path_is_no_chunk_and_a_name_no_file(self):
        self.tells(EXAMPLE, parts(1, "greet"), [0])
        self.tells(EXAMPLE, parts(0, "main.txt"), [0])
        self.tells(self.TEXT, parts(1, "b"), [0])

    def test_all_blocks(self):
        self.tells(chunk("a") * 60, parts(0, "a"), [60] + list(range(60)))
        self.tells("\n" * 199 + file("f"), parts(1, "f"), [1, 199])

    def test_one_that_is_not_there(self):
        for name in ("c", "aa", "a b", "f", "f/g/", "b(x)") + NO_FORM:
            self.tells(self.TEXT, parts(0, name), [0])
            self.tells(self.TEXT, parts(1, name), [0])
        self.assertEqual(run(parts(0, "a"), parts(1, "")), [[0], [0]])

    def test_a_name_that_is_only_used(self):
        self.tells(file("f", "@{b}"), parts(0, "b"), [0])

    def test_neither_0_nor_1(self):
        for number in (-1, 2, 3, -2, FARTHEST, -FARTHEST, FARTHEST - 1):
            for name in ("a", "c", "f/g") + NO_FORM:
                self.tells(self.TEXT, parts(number, name), [-2])
        self.assertEqual(run(parts(2, "a")), [[-2]])

    def test_after_edits(self):
        found = run(
            read(self.TEXT),
            rename("a", "c"), parts(0, "a"), parts(0, "c"), parts(1, "a"),
            refile("a", "c"), parts(1, "a"), parts(1, "c"), parts(0, "c"),
            move(1, 1, 4), parts(0, "c"), parts(1, "c"),
            put(0, "p\n" + chunk("c")), parts(0, "c"),
            cut(1, 3), parts(0, "c"), parts(1, "c"),
        )
        self.assertEqual(found[1:], [
            [2, 1], [0], [2, 1, 5], [2, 2, 7],
            [2], [0], [2, 2, 7], [2, 1, 5],
            [1], [2, 3, 5], [2, 1, 7],
            [10], [3, 1, 5, 7],
            [7], [2, 2, 4], [1, 6],
        ])


class Uses(Tells):
    TEXT = (
        "@@{a}\n"
        + chunk("a(x)", "", "@{a}", "x@{a}@{b}@@{a}@{a(1, a)}", "@if a", "@<x>@{a()}", "@else", "  @{a}", "@fi")
        + "p\n"
        + file("a", "@{a b}", "@{a}@{a}@{a}")
        + chunk("c")
    )

    def test_of_the_example(self):
        self.tells(EXAMPLE, uses("greet"), [2, 1, 1, 1, 1, 3, 1])

    def test_in_one_line_and_several_lines_and_blocks(self):
        self.tells(self.TEXT, uses("a"), [8, 1, 1, 0, 1, 2, 1, 1, 2, 4, 1, 4, 1, 1, 6, 1, 3, 1, 0, 3, 1, 1, 3, 1, 2])
        self.tells(self.TEXT, uses("b"), [1, 1, 2, 2])
        self.tells(self.TEXT, uses("a b"), [1, 3, 0, 0])

    def test_within_a_condition(self):
        self.tells(chunk("a", "@if b", "@if b", "@{b}", "@fi", "@else", "@{b}", "@fi"), uses("b"), [2, 0, 2, 0, 0, 5, 0])

    def test_a_name_in_a_header_alone(self):
        self.tells(self.TEXT, uses("c"), [0])

    def test_a_name_that_is_told_nowhere(self):
        self.tells(file("f", "@{" + LONG_NAME + "}"), uses(LONG_NAME), [1, 0, 0, 0])

    def test_one_that_is_not_there(self):
        for name in ("d", "x", "aa", "b a", "a(1, a)", "1", "a}") + NO_FORM:
            self.tells(self.TEXT, uses(name), [0])
        self.assertEqual(run(uses("a"), uses("")), [[0], [0]])

    def test_a_literal_a_parameter_a_setting_or_an_argument_is_none(self):
        self.tells(file("y") + chunk("a(y)", "y", "@<y>", "@if y", "@{z(y)}@@{y}", "@fi"), uses("y"), [0])

    def test_many(self):
        rows = ["@{a}" * 50] * 5
        places = [number for j in range(5) for k in range(50) for number in (1, j, k)]
        self.tells("p\n" + file("f", *rows), uses("a"), [250] + places)

    def test_after_edits(self):
        text = chunk("a", "@{b}", "@{c}") + "p\n" + file("f", "@{b}")
        found = run(
            read(text), uses("b"),
            move(0, 1, 3), uses("b"),
            lines(2, 0, 0, "x @{b}\n\n"), uses("b"),
            rename("b", "d"), uses("b"), uses("d"),
            lines(1, 0, 1, ""), uses("d"),
            cut(0, 2), uses("d"),
        )
        self.assertEqual(found[1:], [
            [2, 0, 0, 0, 2, 0, 0],
            [1], [2, 1, 0, 0, 2, 0, 0],
            [4], [3, 1, 0, 0, 2, 0, 1, 2, 2, 0],
            [0, 3], [0], [3, 1, 0, 0, 2, 0, 1, 2, 2, 0],
            [0], [2, 2, 0, 1, 2, 2, 0],
            [1], [2, 0, 0, 1, 0, 2, 0],
        ])


class Params(Tells):
    def test_none(self):
        self.tells(chunk("a"), params("a"), [0])
        self.tells(chunk("b(x)") + chunk("a", "@{a(1)}"), params("a"), [0])

    def test_one_to_four(self):
        self.tells(EXAMPLE, params("greet"), [1, 1, 120])
        self.tells(chunk("a(y, x)"), params("a"), texts("y", "x"))
        self.tells(chunk("a(z, y, x)"), params("a"), texts("z", "y", "x"))
        longest = [letter * 12 for letter in "zyxw"]
        self.tells(chunk("a(" + ", ".join(longest) + ")"), params("a"), texts(*longest))

    def test_one_of_several_parts(self):
        text = file("a") + "p\n" + chunk("b(w)") + chunk("a(x, y1)", "@<x>", "@{b(z)}") + chunk("a(x, y1)")
        self.tells(text, params("a"), texts("x", "y1"))
        self.tells(text, params("b"), texts("w"))

    def test_a_name_in_uses_alone(self):
        self.tells(chunk("a(x)", "@{b}", "@{c(x)}"), params("b"), [-3])
        self.tells(chunk("a(x)", "@{b}", "@{c(x)}"), params("c"), [-3])

    def test_a_path_alone(self):
        self.tells(file("f"), params("f"), [-3])
        self.tells(file("f", "@{f}"), params("f"), [-3])

    def test_one_that_is_not_there(self):
        for name in ("b", "x", "aa", "a(x)", "s") + NO_FORM:
            self.tells(chunk("a(x)", "@if s", "@fi"), params(name), [-3])
        self.assertEqual(run(params("a"), params("")), [[-3], [-3]])

    def test_after_edits(self):
        found = run(
            read(chunk("a(x, y)", "@<x>") + ended("p")),
            reparam("a", "x", "z"), params("a"),
            reparam("a", "y", "z"), params("a"),
            rename("a", "b"), params("a"), params("b"),
            put(0, chunk("b(y, z)")), params("b"),
            put(0, chunk("a(w)")), params("a"),
            cut(1, 1), params("b"),
        )
        self.assertEqual(found[1:], [
            [1], texts("z", "y"), [-5], texts("z", "y"), [1, 0], [-3], texts("z", "y"), [-6], texts("z", "y"), [3],
            texts("w"), [2], [-3],
        ])


if __name__ == "__main__":
    unittest.main()
