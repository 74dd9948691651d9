"""Promise 10: reparam."""

import unittest

from calling import LONG_NAME, Edits, chunk, file, nearly_full, read, rename, reparam, run, show, size

TEXT = (
    "x\n"
    + chunk("a(w, x)", "x@<x>@<w>@<x>", "@if x", "@{x(x)}@@<x>", "@fi")
    + chunk("b(x)", "@<x>")
    + file("x", "x")
    + chunk("a(w, x)", "@<x>")
    + chunk("c", "@{a(x, x)}")
)


class Reparam(Edits):
    def test_in_all_parts_of_the_name_and_nowhere_else(self):
        then = (
            "x\n"
            + chunk("a(w, new1)", "x@<new1>@<w>@<new1>", "@if x", "@{x(x)}@@<x>", "@fi")
            + chunk("b(x)", "@<x>")
            + file("x", "x")
            + chunk("a(w, new1)", "@<new1>")
            + chunk("c", "@{a(x, x)}")
        )
        self.gives(TEXT, reparam("a", "x", "new1"), [2], then)

    def test_literals_and_uses_that_read_like_a_parameter(self):
        self.gives(chunk("x(x)", "x", "@{x}", "@<x>"), reparam("x", "x", "y"), [1], chunk("x(y)", "x", "@{x}", "@<y>"))

    def test_a_parameter_that_no_line_has(self):
        self.gives(chunk("a(x, y)"), reparam("a", "x", "z"), [1], chunk("a(z, y)"))

    def test_the_same_parameter(self):
        self.gives(TEXT, reparam("a", "x", "x"), [2], TEXT)

    def test_a_parameter_of_another_name_is_no_clash(self):
        self.gives(chunk("a(x)") + chunk("b(y)"), reparam("a", "x", "y"), [1], chunk("a(y)") + chunk("b(y)"))

    def test_no_part_of_this_name(self):
        for name in ("x", "d", "", "A", "a "):
            self.refuses(TEXT, reparam(name, "x", "y"), -3)
        self.refuses("", reparam("a", "x", "y"), -3)

    def test_no_such_parameter(self):
        for old in ("y", "", "X", "x "):
            self.refuses(TEXT, reparam("a", old, "z"), -4)
        self.refuses(TEXT, reparam("c", "x", "z"), -4)
        self.refuses(TEXT, reparam("b", "w", "z"), -4)

    def test_no_short_name(self):
        for new in ("", "X", "1x", "x-", "x y", " x", "x ", "s" * 13, "x\n", "\xff", "\x00"):
            self.refuses(TEXT, reparam("a", "x", new), -1)
        self.gives(chunk("a(x)", "@<x>"), reparam("a", "x", "s" * 12), [1], chunk("a(" + "s" * 12 + ")", "@<" + "s" * 12 + ">"))

    def test_another_one_of_its_parameters(self):
        self.refuses(TEXT, reparam("a", "x", "w"), -5)
        self.refuses(TEXT, reparam("a", "w", "x"), -5)

    def test_the_order_of_refusals(self):
        self.refuses(TEXT, reparam("d", "y", ""), -3)
        self.refuses(TEXT, reparam("d", "x", "w"), -3)
        self.refuses(TEXT, reparam("a", "y", ""), -4)
        self.refuses(TEXT, reparam("a", "y", "w"), -4)
        self.refuses(TEXT, reparam("a", "x", "W"), -1)
        self.refuses(chunk("a(x, xx)", "@<x>" * 50), reparam("a", "x", "xx"), -5)

    def test_lines_of_200_and_201_bytes(self):
        self.gives(chunk("a(x)", "@<x>" * 40), reparam("a", "x", "xx"), [1], chunk("a(xx)", "@<xx>" * 40))
        self.refuses(chunk("a(x)", "@<x>" * 40 + "x"), reparam("a", "x", "xx"), -6)

    def test_the_last_part_counts_too(self):
        self.refuses(chunk("a(x)") + chunk("a(x)", "@<x>" * 40 + "x"), reparam("a", "x", "xx"), -6)

    def test_20000_and_20001_bytes(self):
        part = chunk("b(x)", "@<x>")
        grow = rename("a", LONG_NAME)
        found = run(read(part + nearly_full(19978 - len(part))), grow, reparam("b", "x", "s" * 12), size())
        self.assertEqual(found[2:], [[1], [52, 2, 51, 20000]])
        found = run(read(part + nearly_full(19979 - len(part))), grow, show(), reparam("b", "x", "s" * 12), show())
        self.assertEqual(found[3], [-6])
        self.assertEqual(found[2], found[4])


if __name__ == "__main__":
    unittest.main()
