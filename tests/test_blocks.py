"""Promises 4, 5 and 6: put, cut, move."""

import unittest

from calling import (
    EXAMPLE, FARTHEST, LONG_NAME, Edits, chunk, cut, ended, file, move, nearly_full, prose_of, put, read, rename, run,
    show, size,
)

ABCDE = "a\nb\nc\nd\ne\n"


class Put(Edits):
    def test_each_place(self):
        self.gives("a\nb\n", put(0, "x\ny\n"), [4], "x\ny\na\nb\n")
        self.gives("a\nb\n", put(1, "x\ny\n"), [4], "a\nx\ny\nb\n")
        self.gives("a\nb\n", put(2, "x\ny\n"), [4], "a\nb\nx\ny\n")
        self.gives("", put(0, EXAMPLE), [3], EXAMPLE)

    def test_no_blocks(self):
        self.gives("a\n", put(1, ""), [1], "a\n")
        self.gives("", put(0, ""), [0], "")

    def test_no_such_place(self):
        for i in (-1, 3, FARTHEST, -FARTHEST):
            self.refuses("a\nb\n", put(i, "x\n"), -2)

    def test_a_text_with_a_fault(self):
        for text in ("x", "\x00\n", "@x\n", chunk("b", "@"), chunk("b", "@fi"), chunk("b", "@<x>"), "\n" * 201,
                     chunk("b") + chunk("b(x)"), "@chunk b\n", "p" * 201 + "\n", "@end\n", file("f") * 61):
            self.refuses("a\n", put(0, text), -1)

    def test_the_place_is_looked_at_before_the_text_and_the_text_before_the_document(self):
        self.refuses("a\n", put(2, "x"), -2)
        self.refuses("\n" * 200, put(201, "\n"), -2)
        self.refuses("\n" * 200, put(0, "x"), -1)
        self.refuses("\n" * 200, put(0, "\n" * 201), -1)

    def test_a_part_is_not_parted(self):
        self.gives(chunk("a", "x"), put(1, chunk("a", "y")), [2], chunk("a", "x") + chunk("a", "y"))

    def test_other_parameters_are_not_held(self):
        for i in (0, 1):
            self.refuses(chunk("a(x)"), put(i, chunk("a")), -6)
            self.refuses(chunk("a(x, y)"), put(i, chunk("a(y, x)")), -6)
            self.gives(chunk("a(x)"), put(i, chunk("a(x)")), [2], chunk("a(x)") * 2)
        self.gives(chunk("a(x)"), put(1, file("a")), [2], chunk("a(x)") + file("a"))

    def test_200_and_201_blocks(self):
        self.gives("\n" * 198, put(5, "\n" * 2), [200], "\n" * 200)
        self.refuses("\n" * 198, put(5, "\n" * 3), -6)

    def test_60_and_61_parts(self):
        self.gives(file("f") * 59, put(0, chunk("a")), [60], chunk("a") + file("f") * 59)
        self.refuses(file("f") * 60, put(0, chunk("a")), -6)

    def test_400_and_401_lines(self):
        most = file("f", *[""] * 399)
        self.gives(most, put(0, chunk("a", "x")), [2], chunk("a", "x") + most)
        self.refuses(most, put(0, chunk("a", "x", "y")), -6)

    def test_20000_and_20001_bytes(self):
        start = [read(nearly_full(19900)), rename("a", LONG_NAME)]
        self.assertEqual(run(*start, put(0, prose_of(100)), size())[3][3], 20000)
        found = run(*start, show(), put(0, prose_of(101)), show())
        self.assertEqual(found[3], [-6])
        self.assertEqual(found[2], found[4])


class Cut(Edits):
    def test_stretches(self):
        self.gives(ABCDE, cut(0, 1), [4], "b\nc\nd\ne\n")
        self.gives(ABCDE, cut(1, 3), [2], "a\ne\n")
        self.gives(ABCDE, cut(4, 1), [4], "a\nb\nc\nd\n")
        self.gives(ABCDE, cut(0, 5), [0], "")
        self.gives(EXAMPLE, cut(1, 1), [2], EXAMPLE[:10] + EXAMPLE[EXAMPLE.index("@chunk"):])

    def test_none(self):
        for i in range(6):
            self.gives(ABCDE, cut(i, 0), [5], ABCDE)
        self.gives("", cut(0, 0), [0], "")

    def test_no_such_stretch(self):
        for i, n in ((-1, 0), (-1, 1), (6, 0), (0, 6), (5, 1), (3, 3), (0, -1), (2, -1), (FARTHEST, 0), (-FARTHEST, 0),
                     (0, FARTHEST), (0, -FARTHEST), (FARTHEST, -FARTHEST), (-FARTHEST, FARTHEST), (6, -1), (-1, 2)):
            self.refuses(ABCDE, cut(i, n), -2)


class Move(Edits):
    def test_forward_and_back(self):
        self.gives(ABCDE, move(0, 1, 2), [1], "b\na\nc\nd\ne\n")
        self.gives(ABCDE, move(0, 2, 5), [1], "c\nd\ne\na\nb\n")
        self.gives(ABCDE, move(1, 2, 4), [1], "a\nd\nb\nc\ne\n")
        self.gives(ABCDE, move(3, 2, 0), [1], "d\ne\na\nb\nc\n")
        self.gives(ABCDE, move(4, 1, 3), [1], "a\nb\nc\ne\nd\n")
        self.gives(chunk("a") + file("f", "x"), move(1, 1, 0), [1], file("f", "x") + chunk("a"))

    def test_the_same_place(self):
        self.gives(ABCDE, move(1, 2, 1), [0], ABCDE)
        self.gives(ABCDE, move(1, 2, 3), [0], ABCDE)
        self.gives(ABCDE, move(0, 5, 0), [0], ABCDE)
        self.gives(ABCDE, move(0, 5, 5), [0], ABCDE)
        for j in range(6):
            self.gives(ABCDE, move(2, 0, j), [0], ABCDE)
            self.gives(ABCDE, move(5, 0, j), [0], ABCDE)
        self.gives("", move(0, 0, 0), [0], "")

    def test_blocks_that_are_alike(self):
        self.gives("a\na\nb\n", move(0, 1, 2), [0], "a\na\nb\n")
        self.gives("a\nb\na\nb\n", move(0, 2, 4), [0], "a\nb\na\nb\n")
        self.gives("a\nb\na\nb\n", move(0, 1, 4), [1], "b\na\nb\na\n")
        self.gives(chunk("a", "x") * 2, move(1, 1, 0), [0], chunk("a", "x") * 2)

    def test_no_such_place(self):
        for i, n, j in ((-1, 0, 0), (6, 0, 0), (0, 6, 0), (4, 2, 0), (0, -1, 0), (0, 1, -1), (0, 1, 6),
                        (FARTHEST, 0, 0), (-FARTHEST, 0, 0), (0, FARTHEST, 0), (0, -FARTHEST, 0), (0, 1, FARTHEST),
                        (0, 1, -FARTHEST), (0, FARTHEST, 1), (1, 5, 3)):
            self.refuses(ABCDE, move(i, n, j), -2)

    def test_into_itself(self):
        self.refuses(ABCDE, move(1, 2, 2), -4)
        self.refuses(ABCDE, move(0, 5, 1), -4)
        self.refuses(ABCDE, move(0, 5, 4), -4)
        self.refuses("a\na\n", move(0, 2, 1), -4)

    def test_a_name_moves_with_its_parts(self):
        text = ended("p") + chunk("a(x)", "@<x>") + chunk("a(x)")
        self.gives(text, move(0, 1, 3), [1], chunk("a(x)", "@<x>") + chunk("a(x)") + ended("p"))


if __name__ == "__main__":
    unittest.main()
