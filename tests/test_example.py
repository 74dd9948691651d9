"""The document's example, as far as its calls are there."""

import unittest

from calling import EXAMPLE, block, codes, lines, read, rename, row, run, show, shown, size


class TheExample(unittest.TestCase):
    def test_it_is_read_and_shown(self):
        self.assertEqual(run(read(EXAMPLE), show()), [[0, 3], shown(EXAMPLE)])

    def test_renaming_greet(self):
        found = run(read(EXAMPLE), rename("greet", "say hello"), block(2), show())
        self.assertEqual(found[1], [1, 2])
        self.assertEqual(found[2], [1] + row("@chunk say hello(x)\nHello, @<x>!\n@end\n"))
        self.assertEqual(found[3], shown(EXAMPLE.replace("greet(", "say hello(")))

    def test_an_if_without_its_end_is_not_held(self):
        found = run(read(EXAMPLE), lines(1, 2, 1, ""), show())
        self.assertEqual(found[1:], [[-6], shown(EXAMPLE)])

    def test_its_size(self):
        self.assertEqual(run(read(EXAMPLE), size())[1], [3, 2, 6, len(codes(EXAMPLE))])


if __name__ == "__main__":
    unittest.main()
