"""Promise 11: resettle."""

import unittest

from calling import (
    LONG_NAME, Edits, chunk, cut, file, lines, nearly_full, put, read, rename, reparam, resettle, run, settings, show, shown,
    size, texts,
)

TEXT = (
    "@@if s\n"
    + "if s\n"
    + chunk("s(s)", "@if s", "@<s>@{s(s)}s @@if s", "@if t", "@else", "@if s", "@fi", "@fi", "@fi", "@if s", "@fi")
    + file("s", "@if s", "@fi", "@if u1", "s", "@fi")
    + chunk("a", "@{s}")
)
LONGEST = "s" * 12


class Resettle(Edits):
    def test_in_each_if_and_nowhere_else(self):
        then = (
            "@@if s\n"
            + "if s\n"
            + chunk("s(s)", "@if new1", "@<s>@{s(s)}s @@if s", "@if t", "@else", "@if new1", "@fi", "@fi", "@fi",
                    "@if new1", "@fi")
            + file("s", "@if new1", "@fi", "@if u1", "s", "@fi")
            + chunk("a", "@{s}")
        )
        self.gives(TEXT, resettle("s", "new1"), [4], then)

    def test_a_setting_that_stands_once(self):
        self.gives(TEXT, resettle("t", "v"), [1], TEXT.replace("@if t", "@if v"))
        self.gives(TEXT, resettle("u1", "u"), [1], TEXT.replace("@if u1", "@if u"))

    def test_only_whole_settings(self):
        text = chunk("a", "@if x", "@fi", "@if xx", "@fi", "@if ax", "@fi")
        self.gives(text, resettle("x", "y"), [1], text.replace("@if x\n", "@if y\n"))

    def test_several_parts_of_one_name(self):
        text = chunk("a", "@if x", "@fi") + "p\n" + chunk("a", "@if x", "@if x", "@fi", "@fi")
        self.gives(text, resettle("x", "y"), [3], text.replace("x", "y"))

    def test_a_files_part_alone(self):
        self.gives(file("f", "@if x", "@fi"), resettle("x", "y"), [1], file("f", "@if y", "@fi"))

    def test_the_same_setting(self):
        self.gives(TEXT, resettle("s", "s"), [4], TEXT)
        self.gives(TEXT, resettle("u1", "u1"), [1], TEXT)

    def test_a_name_or_path_or_parameter_is_no_clash(self):
        text = file("f") + chunk("a(x)", "@if s", "@fi")
        for new in ("f", "a", "x"):
            self.gives(text, resettle("s", new), [1], text.replace("@if s", "@if " + new))

    def test_a_parameter_keeps_its_own_name(self):
        text = chunk("a(x)", "@if x", "@<x>", "@fi")
        self.assertEqual(
            run(read(text), resettle("x", "y"), reparam("a", "x", "z"), show())[1:],
            [[1], [1], shown(chunk("a(z)", "@if y", "@<z>", "@fi"))],
        )

    def test_there_and_back(self):
        found = run(read(TEXT), resettle("s", "z"), resettle("z", "s"), show())
        self.assertEqual(found[1:], [[4], [4], shown(TEXT)])

    def test_after_edits(self):
        text = chunk("a", "@if x", "@fi") + chunk("b", "@if y", "@fi")
        found = run(
            read(text), resettle("x", "y"), cut(1, 1), resettle("x", "y"), resettle("x", "z"),
            put(0, file("f", "@if x", "@fi")), lines(1, 0, 0, "@if x\n@fi\n"), resettle("x", "z"), show(),
        )
        self.assertEqual(found[1:-1], [[-5], [1], [1], [-3], [2], [4], [2]])
        self.assertEqual(found[-1], shown(file("f", "@if z", "@fi") + chunk("a", "@if z", "@fi", "@if y", "@fi")))

    def test_the_new_setting_is_told(self):
        found = run(read(TEXT), settings(), resettle("s", "z"), settings())
        self.assertEqual(found[1:], [texts("s", "t", "u1"), [4], texts("z", "t", "u1")])

    def test_no_such_setting(self):
        for old in ("", "x", "S", "a", "s ", " s", "if", "@if s", "u", "u11", "s\n", LONGEST + "s"):
            self.refuses(TEXT, resettle(old, "v"), -3)
        self.refuses("", resettle("s", "t"), -3)
        self.refuses(chunk("s(s)", "@<s>@{s}s"), resettle("s", "t"), -3)
        self.refuses("@@if s\n" + file("s", "@@if s"), resettle("s", "t"), -3)

    def test_no_short_name(self):
        for new in ("", "S", "1x", "x-", "x y", " x", "x ", "-", "@", "s" * 13, "x\n", "\n", "\xff", "x\x00", "X1", "s_t"):
            self.refuses(TEXT, resettle("s", new), -1)

    def test_12_and_13_bytes(self):
        text = chunk("a", "@if s", "@fi")
        self.gives(text, resettle("s", LONGEST), [1], chunk("a", "@if " + LONGEST, "@fi"))
        self.gives(chunk("a", "@if " + LONGEST, "@fi"), resettle(LONGEST, "x23456789012"), [1],
                   chunk("a", "@if x23456789012", "@fi"))
        self.refuses(text, resettle("s", LONGEST + "s"), -1)
        self.refuses(text, resettle("s", "x234567890123"), -1)

    def test_another_setting(self):
        self.refuses(TEXT, resettle("s", "t"), -5)
        self.refuses(TEXT, resettle("t", "s"), -5)
        self.refuses(TEXT, resettle("s", "u1"), -5)
        self.refuses(TEXT, resettle("u1", "s"), -5)

    def test_the_order_of_refusals(self):
        self.refuses(TEXT, resettle("x", ""), -3)
        self.refuses(TEXT, resettle("x", "t"), -3)
        self.refuses(TEXT, resettle("", ""), -3)
        self.refuses(TEXT, resettle("X", "X"), -3)
        self.refuses(TEXT, resettle("s", "T"), -1)

    def test_20000_and_20001_bytes(self):
        part = chunk("b", "@if s", "@fi") + file("g", "@if s", "@fi")
        grow = rename("a", LONG_NAME)
        found = run(read(part + nearly_full(19978 - len(part))), grow, resettle("s", LONGEST), size())
        self.assertEqual(found[2], [2])
        self.assertEqual(found[3][3], 20000)
        start = [read(part + nearly_full(19979 - len(part))), grow, show(), size(), settings()]
        found = run(*start, resettle("s", LONGEST), show(), size(), settings())
        self.assertEqual(found[3][3], 19979)
        self.assertEqual(found[5], [-6])
        self.assertEqual(found[6:], found[2:5])
        self.assertEqual(run(*start, resettle("s", LONGEST), resettle("s", "s" * 11), size())[5:7], [[-6], [2]])

    def test_taken_is_looked_at_before_too_many_bytes(self):
        part = chunk("b", "@if s", "@fi", "@if " + LONGEST, "@fi")
        found = run(read(part + nearly_full(20000 - len(part))), rename("a", LONG_NAME), size(), resettle("s", LONGEST),
                    resettle("s", LONGEST + "s"), resettle("s", "ss"))
        self.assertEqual(found[2][3], 20000)
        self.assertEqual(found[3:], [[-5], [-1], [-6]])


if __name__ == "__main__":
    unittest.main()
