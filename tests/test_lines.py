"""Promise 7: lines."""

import unittest

from calling import FARTHEST, LONG_NAME, Edits, chunk, ended, file, lines, nearly_full, read, rename, run, show, size

ABC = chunk("a(x)", "1", "2", "3")


class Lines(Edits):
    def test_stretches(self):
        self.gives(ABC, lines(0, 0, 0, "x\n"), [4], chunk("a(x)", "x", "1", "2", "3"))
        self.gives(ABC, lines(0, 3, 0, "x\n"), [4], chunk("a(x)", "1", "2", "3", "x"))
        self.gives(ABC, lines(0, 1, 1, "x\n\n"), [4], chunk("a(x)", "1", "x", "", "3"))
        self.gives(ABC, lines(0, 1, 2, "@{b(1)}@<x>@@\n"), [2], chunk("a(x)", "1", "@{b(1)}@<x>@@"))
        self.gives(ABC, lines(0, 0, 3, ""), [0], chunk("a(x)"))
        self.gives(ABC, lines(0, 2, 0, ""), [3], ABC)
        self.gives(file("f"), lines(0, 0, 0, "x\n"), [1], file("f", "x"))

    def test_only_this_part(self):
        self.gives("p\n" + ABC * 3 + "q\n", lines(2, 0, 3, "x\n"), [1], "p\n" + ABC + chunk("a(x)", "x") + ABC + "q\n")

    def test_no_such_block(self):
        for i in (-1, 1, FARTHEST, -FARTHEST):
            self.refuses(ABC, lines(i, 0, 0, ""), -2)

    def test_prose(self):
        self.refuses("p\n", lines(0, 0, 0, ""), -3)

    def test_no_such_stretch(self):
        for j, n in ((-1, 0), (4, 0), (0, 4), (3, 1), (2, 2), (0, -1), (-1, 1), (FARTHEST, 0), (-FARTHEST, 0),
                     (0, FARTHEST), (0, -FARTHEST), (FARTHEST, -FARTHEST)):
            self.refuses(ABC, lines(0, j, n, ""), -2)

    def test_a_text_that_is_not_lines(self):
        for text in ("x", "\n ", "x\ny", "\x00\n", "\x7f\n", "\xff\n", "c" * 201 + "\n", "@end\n", "@chunk b\n", "@\n",
                     "@{A}\n", "@<>\n", "@if X\n", "x\n@{\n", "@end\n@chunk b\n", "@fi \n", "@{a( )}\n"):
            self.refuses(ABC, lines(0, 0, 0, text), -1)
        self.gives(chunk("a"), lines(0, 0, 0, "c" * 200 + "\n"), [1], chunk("a", "c" * 200))

    def test_the_order_of_refusals(self):
        self.refuses("p\n", lines(1, -1, 0, "x"), -2)
        self.refuses("p\n", lines(0, -1, 0, "x"), -3)
        self.refuses(ABC, lines(0, 4, 0, "x"), -2)
        self.refuses(ABC, lines(0, 0, 0, "@fi\n@"), -1)
        self.refuses(ABC, lines(0, 0, 0, "@<y>\n@\n"), -1)
        self.refuses(ABC, lines(0, 0, 0, "\n" * 401 + "x"), -1)

    def test_conditions_that_are_not_paired_are_not_held(self):
        text = chunk("a", "@if x", "1", "@else", "2", "@fi")
        for j, n, new in ((0, 1, ""), (4, 1, ""), (1, 0, "@fi\n"), (1, 0, "@else\n"), (3, 0, "@else\n"), (3, 0, "@if y\n"),
                          (5, 0, "@fi\n"), (5, 0, "@else\n"), (0, 0, "@fi\n@if x\n")):
            self.refuses(text, lines(0, j, n, new), -6)
        self.gives(text, lines(0, 2, 1, ""), [4], chunk("a", "@if x", "1", "2", "@fi"))
        self.gives(text, lines(0, 1, 0, "@fi\n@if y\n"), [7], chunk("a", "@if x", "@fi", "@if y", "1", "@else", "2", "@fi"))

    def test_6_and_7_conditions(self):
        five = chunk("a", *["@if x"] * 5, *["@fi"] * 5)
        six = chunk("a", *["@if x"] * 6, *["@fi"] * 6)
        self.gives(five, lines(0, 5, 0, "@if x\n@fi\n"), [12], six)
        self.refuses(six, lines(0, 6, 0, "@if x\n@fi\n"), -6)

    def test_parameters_that_are_not_told_are_not_held(self):
        self.refuses(ABC, lines(0, 0, 0, "@<y>\n"), -6)
        self.refuses(file("f"), lines(0, 0, 0, "@<x>\n"), -6)
        self.refuses(ABC + chunk("b", "1"), lines(1, 0, 1, "@<x>\n"), -6)

    def test_400_and_401_lines(self):
        text = file("f", *[""] * 300) + chunk("a", *[""] * 90)
        self.gives(text, lines(1, 0, 10, "\n" * 20), [100], file("f", *[""] * 300) + chunk("a", *[""] * 100))
        self.refuses(text, lines(1, 0, 10, "\n" * 21), -6)

    def test_20000_and_20001_bytes(self):
        start = [read("@file g\n@end\n" + nearly_full(19900 - 13)), rename("a", LONG_NAME)]
        self.assertEqual(run(*start, lines(0, 0, 0, ended("x" * 99)), size())[2:], [[1], [52, 2, 51, 20000]])
        found = run(*start, show(), lines(0, 0, 0, ended("x" * 100)), show())
        self.assertEqual(found[3], [-6])
        self.assertEqual(found[2], found[4])


if __name__ == "__main__":
    unittest.main()
