"""Promise 8: rename."""

import unittest

from calling import LONG_NAME, Edits, chunk, file, nearly_full, prose_of, read, rename, run, show, shown, size

TEXT = (
    "a is told @{a}\n"
    + chunk("a(x)", "@{a(a)}@{b}@{a()} a @@{a}", "@if a", "@<x>", "@fi")
    + file("a", "@{a b}", "@{a}", "@{c}")
    + chunk("b", "@{b}")
    + chunk("a(x)")
)


class Rename(Edits):
    def test_parts_and_uses_and_nothing_else(self):
        then = (
            "a is told @{a}\n"
            + chunk("new name(x)", "@{new name(a)}@{b}@{new name()} a @@{a}", "@if a", "@<x>", "@fi")
            + file("a", "@{a b}", "@{new name}", "@{c}")
            + chunk("b", "@{b}")
            + chunk("new name(x)")
        )
        self.gives(TEXT, rename("a", "new name"), [2, 3], then)

    def test_a_name_that_is_only_used_and_one_that_is_only_told(self):
        self.gives(TEXT, rename("c", "d"), [0, 1], TEXT.replace("@{c}", "@{d}"))
        self.gives(TEXT, rename("a b", "d"), [0, 1], TEXT.replace("@{a b}", "@{d}"))
        self.gives(chunk("a"), rename("a", "b"), [1, 0], chunk("b"))

    def test_literals_and_parameters_that_read_like_a_name(self):
        self.gives(
            chunk("c(a, b)", "@{a}", "a", "b", "@<a>", "@<b>", "@{a(a, b)}"), rename("a", "b"), [0, 2],
            chunk("c(a, b)", "@{b}", "a", "b", "@<a>", "@<b>", "@{b(a, b)}"),
        )
        self.gives(chunk("c(a)", "a", "@<a>"), rename("c", "a"), [1, 0], chunk("a(a)", "a", "@<a>"))
        self.refuses(chunk("c(a)", "a", "@<a>"), rename("a", "b"), -3)

    def test_the_same_name(self):
        self.gives(TEXT, rename("a", "a"), [2, 3], TEXT)

    def test_a_path_or_setting_or_parameter_is_no_clash(self):
        text = file("f") + chunk("a(x)", "@if s", "@fi")
        for new in ("f", "x", "s"):
            self.gives(text, rename("a", new), [1, 0], file("f") + chunk(new + "(x)", "@if s", "@fi"))

    def test_there_and_back(self):
        self.assertEqual(run(read(TEXT), rename("a", "z"), rename("z", "a"), show())[1:], [[2, 3], [2, 3], shown(TEXT)])

    def test_no_such_name(self):
        for old in ("", "d", "A", "x", "is", "a ", "n" * 40):
            self.refuses(TEXT, rename(old, "e"), -3)
        self.refuses(file("f"), rename("f", "g"), -3)
        self.refuses("", rename("a", "b"), -3)

    def test_no_name(self):
        for new in ("", " ", "a ", " a", "a  b", "A", "a_b", "a\n", "a\x00", "\xff", "n" * 31, "a(x)", "@"):
            self.refuses(TEXT, rename("a", new), -1)
        self.gives(chunk("a"), rename("a", LONG_NAME), [1, 0], chunk(LONG_NAME))

    def test_another_name_that_stands(self):
        for new in ("b", "c", "a b"):
            self.refuses(TEXT, rename("a", new), -5)
        self.refuses(TEXT, rename("c", "a"), -5)

    def test_the_order_of_refusals(self):
        self.refuses(TEXT, rename("d", ""), -3)
        self.refuses(TEXT, rename("d", "a"), -3)
        self.refuses(TEXT, rename("a", "A"), -1)
        self.refuses(chunk("a", "@{a}" * 50, "@{b}"), rename("a", "b"), -5)

    def test_lines_of_200_and_201_bytes(self):
        self.gives(chunk("b", "@{a}" * 40), rename("a", "aa"), [0, 40], chunk("b", "@{aa}" * 40))
        self.refuses(chunk("b", "@{a}" * 40 + "x"), rename("a", "aa"), -6)
        self.refuses(chunk("a", "@{b}", "@{a}" * 40 + "x"), rename("a", "aa"), -6)

    def test_the_longest_header_has_room(self):
        told = "(" + ", ".join(letter * 12 for letter in "wxyz") + ")"
        self.gives(chunk("a" + told), rename("a", LONG_NAME), [1, 0], chunk(LONG_NAME + told))

    def test_20000_and_20001_bytes(self):
        found = run(read(nearly_full(20000)), rename("a", LONG_NAME), size(), show())
        self.assertEqual(found[1:3], [[0, 300], [51, 1, 50, 20000]])
        self.assertEqual(found[3], shown(nearly_full(20000).replace("@{a}", "@{" + LONG_NAME + "}")))
        self.refuses(nearly_full(20001), rename("a", LONG_NAME), -6)

    def test_a_header_that_grows_counts(self):
        part = chunk("a")
        self.assertEqual(len(part), 14)
        text = prose_of(20000 - 301 * 29 - len(part) - 1258 - 5) + part + file("f", *["@{a}" * 6] * 50)
        self.assertEqual(run(read(text), rename("a", LONG_NAME), size())[1:], [[1, 300], [52, 2, 50, 20000]])
        self.refuses("\n" + text, rename("a", LONG_NAME), -6)


if __name__ == "__main__":
    unittest.main()
