"""The document's example, call by call."""

import unittest

from calling import (
    EXAMPLE, block, codes, files, lines, names, params, parts, pieces, read, rename, row, run, settings, show, shown, size,
    texts, uses,
)


class TheExample(unittest.TestCase):
    def test_it_is_read_and_shown(self):
        self.assertEqual(run(read(EXAMPLE), show()), [[0, 3], shown(EXAMPLE)])

    def test_all_its_calls_on_one_object(self):
        found = run(
            read(EXAMPLE), pieces(1, 3), uses("greet"), rename("greet", "say hello"), block(2), lines(1, 2, 1, ""), show(),
        )
        self.assertEqual(found, [
            [0, 3],
            [0, 3, 0, 2, 32, 32, 1, 5, 103, 114, 101, 101, 116, 1, 3, 65, 76, 76, 0, 2, 32, 64],
            [2, 1, 1, 1, 1, 3, 1],
            [1, 2],
            [1] + row("@chunk say hello(x)\nHello, @<x>!\n@end\n"),
            [-6],
            shown(EXAMPLE.replace("greet(", "say hello(")),
        ])

    def test_renaming_greet(self):
        found = run(read(EXAMPLE), rename("greet", "say hello"), uses("greet"), uses("say hello"), names(), pieces(1, 1))
        self.assertEqual(found[1:5], [[1, 2], [0], [2, 1, 1, 1, 1, 3, 1], texts("say hello")])
        self.assertEqual(found[5], [0, 2, 0, 2, 32, 32, 1] + row("say hello") + texts("you"))

    def test_an_if_without_its_end_is_not_held(self):
        found = run(read(EXAMPLE), lines(1, 2, 1, ""), show())
        self.assertEqual(found[1:], [[-6], shown(EXAMPLE)])

    def test_what_stands_in_it(self):
        found = run(read(EXAMPLE), names(), files(), settings(), parts(0, "greet"), parts(1, "main.txt"), params("greet"))
        self.assertEqual(found[1:], [texts("greet"), texts("main.txt"), texts("loud"), [1, 2], [1, 1], texts("x")])

    def test_its_size(self):
        self.assertEqual(run(read(EXAMPLE), size())[1], [3, 2, 6, len(codes(EXAMPLE))])


if __name__ == "__main__":
    unittest.main()
