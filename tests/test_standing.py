"""Promises 12, 13 and 14: names, files, settings."""

import unittest

from calling import (
    EXAMPLE, LONG_NAME, Tells, chunk, cut, file, files, lines, move, names, put, read, refile, rename, reparam, resettle,
    run, settings, texts,
)


class Names(Tells):
    def test_none(self):
        self.assertEqual(run(names()), [[0]])
        self.tells("", names(), [0])
        self.tells("a\n@@{a}\n" + file("f", "a", "@@{a}", "@if s", "@fi"), names(), [0])

    def test_of_the_example(self):
        self.tells(EXAMPLE, names(), [1, 5, 103, 114, 101, 101, 116])

    def test_of_chunks_and_of_uses(self):
        self.tells(chunk("b", "@{c}") + chunk("a"), names(), texts("b", "c", "a"))
        self.tells(chunk("z") + chunk("y z") + chunk("x"), names(), texts("z", "y z", "x"))
        self.tells(chunk("a", "@{d}x@{c(1)}", "@{b()}"), names(), texts("a", "d", "c", "b"))

    def test_one_that_comes_twice(self):
        self.tells(chunk("a") + chunk("b") + chunk("a"), names(), texts("a", "b"))
        self.tells(file("f", "@{b}@{a}@{b}", "@{a}") + file("g", "@{b}"), names(), texts("b", "a"))
        self.tells(chunk("a", "@{a}"), names(), texts("a"))
        self.tells(chunk("a", "@{b}@{b(1)}"), names(), texts("a", "b"))

    def test_first_in_a_use_and_later_in_a_header(self):
        self.tells(chunk("a", "@{c}", "@{b}") + chunk("b") + chunk("c"), names(), texts("a", "c", "b"))
        self.tells(file("f", "@{b}") + chunk("a") + chunk("b"), names(), texts("b", "a"))

    def test_first_in_a_header_and_later_in_a_use(self):
        self.tells(chunk("b") + chunk("c") + chunk("a", "@{c}@{b}"), names(), texts("b", "c", "a"))
        self.tells(chunk("b", "@{b}@{a}") + file("f", "@{a}@{b}"), names(), texts("b", "a"))

    def test_in_a_files_part_and_within_a_condition(self):
        self.tells(file("f", "@{b}", "@if s", "@{a}", "@else", "@{c}", "@fi"), names(), texts("b", "a", "c"))

    def test_a_path_a_setting_a_parameter_or_an_argument_is_none(self):
        self.tells(file("f") + chunk("a(x)", "@if s", "@<x>y@@{z}", "@{b(c, d)}", "@fi"), names(), texts("a", "b"))
        self.tells(file("a") + chunk("b", "@{c}") + chunk("a"), names(), texts("b", "c", "a"))

    def test_names_that_begin_alike(self):
        self.tells(chunk("a b", "@{a}@{a b c}") + chunk(LONG_NAME), names(), texts("a b", "a", "a b c", LONG_NAME))

    def test_after_edits(self):
        text = chunk("a", "@{b}") + chunk("c") + file("f", "@{d}")
        found = run(
            read(text), names(),
            move(0, 1, 2), names(),
            rename("d", "z"), names(),
            rename("c", "y"), names(),
            put(0, chunk("b")), names(),
            lines(2, 0, 1, "@{e}\n@{z}\n"), names(),
            cut(0, 2), names(),
            read(""), names(),
        )
        self.assertEqual(found[1::2], [
            texts("a", "b", "c", "d"), texts("c", "a", "b", "d"), texts("c", "a", "b", "z"), texts("y", "a", "b", "z"),
            texts("b", "y", "a", "z"), texts("b", "y", "a", "e", "z"), texts("a", "e", "z"), texts(),
        ])

    def test_after_refused_edits(self):
        text = chunk("a", "@{b}")
        found = run(read(text), rename("a", "b"), rename("a", "A"), lines(0, 0, 1, "@{c}\n@fi\n"), read(chunk("c") + "x"),
                    put(0, chunk("a(x)", "@{d}")), names())
        self.assertEqual(found[1:], [[-5], [-1], [-6], [3, 1], [-6], texts("a", "b")])


class Files(Tells):
    def test_none(self):
        self.assertEqual(run(files()), [[0]])
        self.tells("f\n@@file f\n" + chunk("f", "@{g}"), files(), [0])

    def test_of_the_example(self):
        self.tells(EXAMPLE, files(), texts("main.txt"))

    def test_in_the_order_of_the_text(self):
        longest = "p" * 40
        self.tells(file("z") + "p\n" + file("A/b.c") + chunk("a") + file(longest) + file("a"), files(),
                   texts("z", "A/b.c", longest, "a"))

    def test_one_that_comes_twice(self):
        self.tells(file("b") + file("a") + file("b", "x") + file("a"), files(), texts("b", "a"))

    def test_a_path_that_is_also_a_name(self):
        self.tells(chunk("a", "@{b}") + file("b") + file("a"), files(), texts("b", "a"))
        self.tells(chunk("a", "@{b}") + file("b") + file("a"), names(), texts("a", "b"))

    def test_after_edits(self):
        found = run(
            read(file("f") + file("g") + file("f")), files(),
            refile("f", "h"), files(),
            move(0, 1, 3), files(),
            put(0, file("h")), files(),
            cut(1, 1), files(),
            rename("h", "i"), files(),
            refile("h", "g"), files(),
        )
        self.assertEqual(found[1::2], [
            texts("f", "g"), texts("h", "g"), texts("g", "h"), texts("h", "g"), texts("h"), texts("h"), texts("g"),
        ])
        self.assertEqual(found[-4:-1:2], [[-3], [3]])


class Settings(Tells):
    def test_none(self):
        self.assertEqual(run(settings()), [[0]])
        self.tells("@@if s\nif s\n" + chunk("s(s)", "@@if s", "@{s(s)}@<s>s"), settings(), [0])

    def test_of_the_example(self):
        self.tells(EXAMPLE, settings(), texts("loud"))

    def test_in_the_order_of_the_text(self):
        text = (
            chunk("a", "@if z", "@if y1", "@fi", "@else", "@if x", "@fi", "@fi")
            + file("f", "@if " + "w" * 12, "@fi")
            + chunk("a", "@if a", "@fi")
        )
        self.tells(text, settings(), texts("z", "y1", "x", "w" * 12, "a"))

    def test_one_that_comes_twice(self):
        text = chunk("a", "@if y", "@if x", "@if y", "@fi", "@fi", "@fi") + file("f", "@if x", "@fi", "@if z", "@fi")
        self.tells(text, settings(), texts("y", "x", "z"))

    def test_a_parameter_is_none(self):
        self.tells(chunk("a(x, y)", "@if x", "@<y>", "@fi"), settings(), texts("x"))

    def test_after_edits(self):
        text = chunk("a(x)", "@if x", "@fi", "@if y", "@fi") + file("f", "@if z", "@fi", "@if x", "@fi")
        found = run(
            read(text), settings(),
            move(1, 1, 0), settings(),
            resettle("x", "v"), settings(),
            reparam("a", "x", "w"), settings(),
            lines(0, 0, 2, ""), settings(),
            lines(0, 0, 0, "@if y\n@fi\n"), settings(),
            cut(0, 1), settings(),
            resettle("v", "y"), settings(),
        )
        self.assertEqual(found[1::2], [
            texts("x", "y", "z"), texts("z", "x", "y"), texts("z", "v", "y"), texts("z", "v", "y"), texts("v", "y"),
            texts("y", "v"), texts("v", "y"), texts("v", "y"),
        ])
        self.assertEqual(found[-2], [-5])


if __name__ == "__main__":
    unittest.main()
