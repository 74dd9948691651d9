"""What the document says of answers and of calls on one object."""

import contextlib
import io
import unittest

from calling import (
    EXAMPLE, block, chunk, cut, file, joined, lines, move, put, read, refile, rename, reparam, row, show, shown, size,
    split,
)
from tangleweave.documents import answers

EVERY_CALL = [
    read(EXAMPLE), show(), block(1), put(3, "p\n"), cut(0, 1), move(0, 1, 3), lines(2, 0, 1, "x\n"),
    rename("greet", "say hello"), refile("main.txt", "m"), reparam("say hello", "x", "who"), size(), show(),
]

EVERY_REFUSAL = [
    block(-1), put(-1, ""), put(0, "@"), put(0, chunk("greet")), cut(0, 9), move(0, 1, 9), move(0, 2, 1), lines(9, 0, 0, ""),
    lines(0, 0, 0, ""), lines(1, 9, 0, ""), lines(1, 0, 0, "@"), lines(1, 0, 0, "@fi\n"), rename("x", "y"),
    rename("greet", ""), refile("x", "y"), refile("main.txt", ""), reparam("x", "y", "z"), reparam("greet", "y", "z"),
    reparam("greet", "x", ""),
]


class Interface(unittest.TestCase):
    def test_how_many_numbers_are_answered_stands_ahead_of_them(self):
        self.assertEqual(answers([0, 2, 97, 10, 1, 2, 0, 2, 1, 18]),
                         [2, 0, 1, 3, 2, 97, 10, 4, 0, 2, 97, 10, 1, -2, 4, 1, 0, 0, 2])

    def test_every_call_on_one_object(self):
        part = file("main.txt", "begin", "  @{greet(you)}", "@if loud", "  @{greet(ALL)} @@", "@fi")
        then = (
            chunk("say hello(who)", "Hello, @<who>!")
            + "p\n"
            + file("m", "x", "  @{say hello(you)}", "@if loud", "  @{say hello(ALL)} @@", "@fi")
        )
        self.assertEqual(split(answers(joined(EVERY_CALL))), [
            [0, 3], shown(EXAMPLE), [2] + row(part), [4], [3], [1], [5], [1, 2], [1], [1], [3, 2, 6, len(then)], shown(then),
        ])

    def test_lists_and_whole_numbers(self):
        found = answers(joined(EVERY_CALL))
        self.assertIs(found.__class__, list)
        self.assertEqual({number.__class__ for number in found}, {int})

    def test_refused_calls_leave_everything_as_it_was(self):
        calls = [read(EXAMPLE), show()]
        expected = answers(joined(calls))[3:]
        for call in EVERY_REFUSAL:
            found = answers(joined([read(EXAMPLE), call, show()]))
            self.assertEqual(found[3], 1, call)
            self.assertLess(found[4], 0, call)
            self.assertEqual(found[5:], expected, call)

    def test_what_is_handed_in_is_not_changed(self):
        for calls in (EVERY_CALL, [read(EXAMPLE)] + EVERY_REFUSAL):
            handed = joined(calls)
            kept = list(handed)
            answers(handed)
            self.assertEqual(handed, kept)

    def test_nothing_is_kept_from_one_time_to_the_next(self):
        handed = joined(EVERY_CALL)
        first = answers(handed)
        self.assertEqual(answers([1, 18]), [1, 0, 4, 0, 0, 0, 0])
        self.assertEqual(answers(handed), first)

    def test_what_was_answered_is_not_drawn_on_later(self):
        handed = joined(EVERY_CALL)
        first = answers(handed)
        kept = list(first)
        first.clear()
        self.assertEqual(answers(handed), kept)

    def test_40_calls(self):
        found = answers(joined([put(0, "p\n")] * 39 + [size()]))
        self.assertEqual(found, joined([1, count] for count in range(1, 40)) + [4, 39, 0, 0, 78])

    def test_nothing_is_printed(self):
        printed = io.StringIO()
        with contextlib.redirect_stdout(printed), contextlib.redirect_stderr(printed):
            answers(joined(EVERY_CALL))
        self.assertEqual(printed.getvalue(), "")


if __name__ == "__main__":
    unittest.main()
