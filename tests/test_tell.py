"""Promises 2, 3 and 19: show, block, size."""

import unittest

from calling import (
    EXAMPLE, FARTHEST, block, chunk, cut, file, lines, move, put, read, refile, rename, reparam, resettle, row, run, show,
    shown, size,
)


class Show(unittest.TestCase):
    def test_the_count_stands_ahead_of_the_text(self):
        self.assertEqual(run(read("ab\n"), show()), [[0, 1], [3, 97, 98, 10]])

    def test_it_changes_nothing(self):
        self.assertEqual(run(read(EXAMPLE), show(), show())[1:], [shown(EXAMPLE)] * 2)


class Block(unittest.TestCase):
    def test_what_it_is_and_its_text(self):
        found = run(read(EXAMPLE), block(0), block(1), block(2))
        first = EXAMPLE.index("@file")
        second = EXAMPLE.index("@chunk")
        self.assertEqual(found[1], [0] + row(EXAMPLE[:first]))
        self.assertEqual(found[2], [2] + row(EXAMPLE[first:second]))
        self.assertEqual(found[3], [1] + row(EXAMPLE[second:]))

    def test_texts_at_the_edges(self):
        texts = ["\n", "@@ p\n", chunk("a"), file("f"), chunk("a", "", "@{a}@{a()}@{a(, x y)}@@ @@")]
        found = run(read("".join(texts)), *[block(i) for i in range(5)])
        kinds = [0, 0, 1, 2, 1]
        self.assertEqual(found[1:], [[kind] + row(text) for kind, text in zip(kinds, texts)])

    def test_no_such_block(self):
        for i in (-1, 3, 4, FARTHEST, -FARTHEST, -3):
            self.assertEqual(run(read(EXAMPLE), block(i), show())[1:], [[-2], shown(EXAMPLE)])
        self.assertEqual(run(block(0)), [[-2]])


class Size(unittest.TestCase):
    def test_a_new_object(self):
        self.assertEqual(run(size()), [[0, 0, 0, 0]])

    def test_files_parts_count_and_headers_and_ends_are_no_lines(self):
        text = "p\n\n" + chunk("a(x)", "@<x>", "@if y", "@fi") + file("f") + file("f", "")
        self.assertEqual(run(read(text), size()), [[0, 5], [5, 3, 4, len(text)]])

    def test_it_goes_with_the_edits(self):
        found = run(read("p\n"), size(), put(1, chunk("a", "x")), size(), cut(0, 1), size())
        self.assertEqual(found[1::2], [[1, 0, 0, 2], [2, 1, 1, 18], [1, 1, 1, 16]])

    def test_it_goes_with_names_that_change(self):
        text = file("f") + chunk("a(x)", "@if s", "@<x>@{a}@{a}", "@fi")
        count = len(text)
        found = run(
            read(text), size(), rename("a", "abc"), size(), refile("f", "f/g.h"), size(), reparam("abc", "x", "x12"), size(),
            resettle("s", "set"), size(), lines(1, 0, 3, "x\n"), size(), move(0, 1, 2), size(),
        )
        self.assertEqual(found[1:-4:2], [[2, 2, 3, count + more] for more in (0, 6, 10, 14, 16)])
        then = len(chunk("abc(x12)", "x") + file("f/g.h"))
        self.assertEqual(found[-4:], [[1], [2, 2, 1, then], [1], [2, 2, 1, then]])

    def test_refused_calls_leave_it(self):
        found = run(read(EXAMPLE), size(), put(0, "@"), size(), read("@"), size(), rename("greet", ""), size(),
                    resettle("loud", "L"), size(), lines(1, 2, 1, ""), size())
        self.assertEqual(found[3::2], [found[1]] * 5)


if __name__ == "__main__":
    unittest.main()
