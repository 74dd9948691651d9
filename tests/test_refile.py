"""Promise 9: refile."""

import unittest

from calling import LONG_NAME, Edits, chunk, file, nearly_full, read, refile, rename, run, show, size

TEXT = file("f", "f @{f}") + "f\n" + chunk("f", "@if f", "@fi") + file("g/h") + file("f")


class Refile(Edits):
    def test_the_files_parts_and_nothing_else(self):
        self.gives(TEXT, refile("f", "A/b.c"), [2], TEXT.replace("@file f", "@file A/b.c"))
        self.gives(TEXT, refile("g/h", "x"), [1], TEXT.replace("g/h", "x"))

    def test_the_same_path(self):
        self.gives(TEXT, refile("f", "f"), [2], TEXT)

    def test_a_name_is_no_clash(self):
        self.gives(file("f") + chunk("a"), refile("f", "a"), [1], file("a") + chunk("a"))

    def test_no_such_file(self):
        for old in ("", "x", "F", "g", "f ", "g/h/"):
            self.refuses(TEXT, refile(old, "new"), -3)
        self.refuses(chunk("a", "@{b}"), refile("a", "c"), -3)
        self.refuses(chunk("a", "@{b}"), refile("b", "c"), -3)
        self.refuses("", refile("f", "g"), -3)

    def test_no_path(self):
        for new in ("", "a b", " ", "a+", "a\n", "\xff", "a\x00", "p" * 41, "@"):
            self.refuses(TEXT, refile("f", new), -1)
        self.gives(file("f"), refile("f", "p" * 40), [1], file("p" * 40))

    def test_another_file(self):
        self.refuses(TEXT, refile("f", "g/h"), -5)
        self.refuses(TEXT, refile("g/h", "f"), -5)

    def test_the_order_of_refusals(self):
        self.refuses(TEXT, refile("x", ""), -3)
        self.refuses(TEXT, refile("x", "f"), -3)
        self.refuses(TEXT, refile("f", "g/h "), -1)

    def test_taken_is_looked_at_before_too_many_bytes(self):
        longer = "p" * 40
        text = file(longer) + nearly_full(20000 - len(file(longer)))
        self.assertEqual(run(read(text), rename("a", LONG_NAME), refile("f", longer))[1:], [[0, 300], [-5]])

    def test_20000_and_20001_bytes(self):
        start = rename("a", LONG_NAME)
        found = run(read(nearly_full(19961)), start, refile("f", "p" * 40), size())
        self.assertEqual(found[2:], [[1], [51, 1, 50, 20000]])
        found = run(read(nearly_full(19962)), start, show(), refile("f", "p" * 40), show())
        self.assertEqual(found[3], [-6])
        self.assertEqual(found[2], found[4])


if __name__ == "__main__":
    unittest.main()
