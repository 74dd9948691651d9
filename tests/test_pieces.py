"""Promise 18: pieces."""

import unittest

from calling import (
    EXAMPLE, FARTHEST, LONG_NAME, Tells, chunk, cut, file, joined, lines, pieces, put, read, rename, reparam, resettle, row,
    run, texts,
)


def literal(text):
    return [0] + row(text)


def use(name, *arguments):
    return [1] + row(name) + texts(*arguments)


def parameter(name):
    return [2] + row(name)


def code(*told):
    return [0, len(told)] + joined(told)


class Pieces(Tells):
    def is_line(self, text, answer):
        self.tells("p\n" + chunk("a(x, y1)", "first", text, "last"), pieces(1, 1), answer)

    def test_of_the_example(self):
        self.tells(EXAMPLE, pieces(1, 0), [0, 1, 0, 5, 98, 101, 103, 105, 110])
        self.tells(EXAMPLE, pieces(1, 1), code(literal("  "), use("greet", "you")))
        self.tells(EXAMPLE, pieces(1, 2), [1, 4, 108, 111, 117, 100])
        self.tells(EXAMPLE, pieces(1, 3),
                   [0, 3, 0, 2, 32, 32, 1, 5, 103, 114, 101, 101, 116, 1, 3, 65, 76, 76, 0, 2, 32, 64])
        self.tells(EXAMPLE, pieces(1, 4), [3])
        self.tells(EXAMPLE, pieces(2, 0), code(literal("Hello, "), parameter("x"), literal("!")))

    def test_an_empty_line(self):
        self.is_line("", [0, 0])

    def test_literals(self):
        for text in (" ", "x", "x y ", "if x", "else", "}{)(,><~", "c" * 200):
            self.is_line(text, code(literal(text)))

    def test_literals_with_at(self):
        self.is_line("@@", [0, 1, 0, 1, 64])
        self.is_line("@@@@", code(literal("@@")))
        self.is_line("@@{b}", code(literal("@{b}")))
        self.is_line("@@<x>@@", code(literal("@<x>@")))
        self.is_line("@@if x", code(literal("@if x")))
        self.is_line("@@@{b}@@", code(literal("@"), use("b"), literal("@")))
        self.is_line("@@" * 100, code(literal("@" * 100)))

    def test_uses(self):
        self.is_line("@{b}", [0, 1, 1, 1, 98, 0])
        self.is_line("@{b()}", [0, 1, 1, 1, 98, 1, 0])
        self.is_line("@{b(, )}", [0, 1, 1, 1, 98, 2, 0, 0])
        self.is_line("@{b c(x)}", code(use("b c", "x")))
        self.is_line("@{b(x, , y  z)}", code(use("b", "x", "", "y  z")))
        self.is_line("@{" + LONG_NAME + "(" + "s" * 40 + ", <>)}", code(use(LONG_NAME, "s" * 40, "<>")))
        self.is_line("@{b}@{c}", code(use("b"), use("c")))
        self.is_line("@{b" + "(" + ", " * 90 + ")}", code(use("b", *[""] * 91)))

    def test_parameters(self):
        self.is_line("@<x>", [0, 1, 2, 1, 120])
        self.is_line("@<x>@<y1>@<x>", code(parameter("x"), parameter("y1"), parameter("x")))
        self.is_line("@<x>>", code(parameter("x"), literal(">")))

    def test_all_kinds_in_one_line(self):
        self.is_line(" @<x>@{b(x)}y@@@{x}@<y1>@@ ", code(
            literal(" "), parameter("x"), use("b", "x"), literal("y@"), use("x"), parameter("y1"), literal("@ "),
        ))

    def test_condition_lines(self):
        part = file("f", "@if s", "@if t12", "@else", "x", "@fi", "@fi", "@if " + "u" * 12, "@fi")
        self.tells(part, pieces(0, 0), [1, 1, 115])
        self.tells(part, pieces(0, 1), [1] + row("t12"))
        self.tells(part, pieces(0, 2), [2])
        self.tells(part, pieces(0, 3), code(literal("x")))
        self.tells(part, pieces(0, 4), [3])
        self.tells(part, pieces(0, 5), [3])
        self.tells(part, pieces(0, 6), [1] + row("u" * 12))

    def test_the_first_and_the_last(self):
        text = chunk("a", "1", "2", "3") + "p\n" + file("f", "4")
        for i, j, told in ((0, 0, "1"), (0, 2, "3"), (2, 0, "4")):
            self.tells(text, pieces(i, j), code(literal(told)))
        full = "\n" * 199 + chunk("a", *["x"] * 399, "y")
        self.tells(full, pieces(199, 399), code(literal("y")))
        self.tells(full, pieces(199, 400), [-2])
        self.tells(full, pieces(200, 399), [-2])
        self.tells(full, pieces(198, 0), [-3])

    def test_no_such_block(self):
        for i in (-1, 3, -3, FARTHEST, -FARTHEST):
            for j in (0, -1, 9, FARTHEST, -FARTHEST):
                self.tells(EXAMPLE, pieces(i, j), [-2])
        self.assertEqual(run(pieces(0, 0)), [[-2]])

    def test_prose(self):
        for j in (0, -1, 1, FARTHEST, -FARTHEST):
            self.tells(EXAMPLE, pieces(0, j), [-3])

    def test_no_such_line(self):
        for j in (-1, 5, 6, -5, FARTHEST, -FARTHEST):
            self.tells(EXAMPLE, pieces(1, j), [-2])
        for j in (-1, 0, 1):
            self.tells(chunk("a"), pieces(0, j), [-2])

    def test_after_edits(self):
        found = run(
            read(chunk("a(x)", "@if s", "@<x>@{b}", "@fi")),
            rename("b", "c d"), reparam("a", "x", "y"), resettle("s", "t"), pieces(0, 0), pieces(0, 1),
            lines(0, 1, 0, "@else\n"), pieces(0, 1), lines(0, 1, 1, ""), pieces(0, 1),
            put(0, "p\n"), pieces(0, 1), pieces(1, 2), cut(0, 1), pieces(0, 2),
        )
        line = code(parameter("y"), use("c d"))
        self.assertEqual(found[1:], [
            [0, 1], [1], [1], [1] + row("t"), line, [4], [2], [3], line, [2], [-3], [3], [1], [3],
        ])


if __name__ == "__main__":
    unittest.main()
