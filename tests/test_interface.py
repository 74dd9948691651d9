"""What the document says of answers and of calls on one object."""

import contextlib
import io
import unittest

from calling import (
    EXAMPLE, block, chunk, cut, file, files, joined, lines, move, names, params, parts, pieces, put, read, refile, rename,
    reparam, resettle, row, settings, show, shown, size, split, texts, uses,
)
from tangleweave.documents import answers

EVERY_CALL = [
    read(EXAMPLE), show(), block(1), put(3, "p\n"), cut(0, 1), move(0, 1, 3), lines(2, 0, 1, "x\n"),
    rename("greet", "say hello"), refile("main.txt", "m"), reparam("say hello", "x", "who"), resettle("loud", "big"), names(),
    files(), settings(), parts(1, "m"), uses("say hello"), params("say hello"), pieces(0, 0), size(), show(),
]

# What tells of all that is held; none of these is refused while the example is.
EVERY_TELLING = [
    show(), block(0), block(1), block(2), names(), files(), settings(), parts(0, "greet"), parts(1, "main.txt"),
    uses("greet"), params("greet"), pieces(1, 2), pieces(1, 3), pieces(2, 0), size(),
]

EVERY_REFUSAL = [
    block(-1), put(-1, ""), put(0, "@"), put(0, chunk("greet")), cut(0, 9), move(0, 1, 9), move(0, 2, 1), lines(9, 0, 0, ""),
    lines(0, 0, 0, ""), lines(1, 9, 0, ""), lines(1, 0, 0, "@"), lines(1, 0, 0, "@fi\n"), rename("x", "y"),
    rename("greet", ""), refile("x", "y"), refile("main.txt", ""), reparam("x", "y", "z"), reparam("greet", "y", "z"),
    reparam("greet", "x", ""), resettle("x", "y"), resettle("loud", ""), parts(-1, "greet"), parts(2, ""), params("x"),
    pieces(-1, 0), pieces(3, 0), pieces(0, 0), pieces(1, -1), pieces(1, 5),
]


class Interface(unittest.TestCase):
    def test_how_many_numbers_are_answered_stands_ahead_of_them(self):
        self.assertEqual(answers([0, 2, 97, 10, 1, 2, 0, 2, 1, 18]),
                         [2, 0, 1, 3, 2, 97, 10, 4, 0, 2, 97, 10, 1, -2, 4, 1, 0, 0, 2])

    def test_every_call_on_one_object(self):
        part = file("main.txt", "begin", "  @{greet(you)}", "@if loud", "  @{greet(ALL)} @@", "@fi")
        then = (
            chunk("say hello(who)", "Hello, @<who>!")
            + "p\n"
            + file("m", "x", "  @{say hello(you)}", "@if big", "  @{say hello(ALL)} @@", "@fi")
        )
        self.assertEqual(split(answers(joined(EVERY_CALL))), [
            [0, 3], shown(EXAMPLE), [2] + row(part), [4], [3], [1], [5], [1, 2], [1], [1], [1], texts("say hello"),
            texts("m"), texts("big"), [1, 2], [2, 2, 1, 1, 2, 3, 1], texts("who"),
            [0, 3, 0] + row("Hello, ") + [2] + row("who") + [0] + row("!"), [3, 2, 6, len(then)], shown(then),
        ])

    def test_lists_and_whole_numbers(self):
        found = answers(joined(EVERY_CALL))
        self.assertIs(found.__class__, list)
        self.assertEqual({number.__class__ for number in found}, {int})

    def test_refused_calls_leave_everything_as_it_was(self):
        expected = answers(joined([read(EXAMPLE)] + EVERY_TELLING))[3:]
        for call in EVERY_REFUSAL:
            found = answers(joined([read(EXAMPLE), call] + EVERY_TELLING))
            self.assertEqual(found[3], 1, call)
            self.assertLess(found[4], 0, call)
            self.assertEqual(found[5:], expected, call)

    def test_all_refused_calls_one_behind_another(self):
        found = split(answers(joined([read(EXAMPLE)] + EVERY_REFUSAL + [show()])))
        self.assertTrue(all(len(answer) == 1 and answer[0] < 0 for answer in found[1:-1]))
        self.assertEqual(found[-1], shown(EXAMPLE))

    def test_calls_that_tell_change_nothing(self):
        once = answers(joined([read(EXAMPLE)] + EVERY_TELLING))[3:]
        self.assertEqual(answers(joined([read(EXAMPLE)] + EVERY_TELLING * 2))[3:], once * 2)
        self.assertEqual(answers(joined([read(EXAMPLE)] + EVERY_TELLING[::-1] + EVERY_TELLING))[3 + len(once):], once)

    def test_a_new_object_has_nothing_to_tell(self):
        found = answers(joined([show(), names(), files(), settings(), parts(0, ""), parts(1, "f"), uses("a"), size()]))
        self.assertEqual(found, [1, 0] * 7 + [4, 0, 0, 0, 0])

    def test_what_is_handed_in_is_not_changed(self):
        for calls in (EVERY_CALL, [read(EXAMPLE)] + EVERY_REFUSAL, [read(EXAMPLE)] + EVERY_TELLING):
            handed = joined(calls)
            kept = list(handed)
            answers(handed)
            self.assertEqual(handed, kept)

    def test_nothing_is_kept_from_one_time_to_the_next(self):
        handed = joined(EVERY_CALL)
        first = answers(handed)
        self.assertEqual(answers([1, 18]), [1, 0, 4, 0, 0, 0, 0])
        self.assertEqual(answers(handed), first)

    def test_what_was_answered_is_not_drawn_on_later(self):
        handed = joined(EVERY_CALL)
        first = answers(handed)
        kept = list(first)
        first.clear()
        self.assertEqual(answers(handed), kept)

    def test_40_calls(self):
        found = answers(joined([put(0, "p\n")] * 39 + [size()]))
        self.assertEqual(found, joined([1, count] for count in range(1, 40)) + [4, 39, 0, 0, 78])

    def test_nothing_is_printed(self):
        printed = io.StringIO()
        with contextlib.redirect_stdout(printed), contextlib.redirect_stderr(printed):
            answers(joined(EVERY_CALL))
        self.assertEqual(printed.getvalue(), "")


if __name__ == "__main__":
    unittest.main()
