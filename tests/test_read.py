"""Promise 1, read: what is a document's text, and what stays when a text is none. Promise 2, show."""

import unittest

from calling import EXAMPLE, chunk, ended, file, read, run, show, shown, size


class Read(unittest.TestCase):
    def holds(self, text, blocks):
        self.assertEqual(run(read(text), show()), [[0, blocks], shown(text)], text)

    def test_a_new_object_shows_nothing(self):
        self.assertEqual(run(show()), [[0]])

    def test_an_empty_text_is_a_document(self):
        self.holds("", 0)
        self.assertEqual(run(read(EXAMPLE), read(""), show(), size()), [[0, 3], [0, 0], [0], [0, 0, 0, 0]])

    def test_prose(self):
        self.holds("a\n", 1)
        self.holds("\n", 1)
        self.holds("\n\n \n", 3)
        self.holds("@@\n@@chunk a\n@@@\n", 3)
        self.holds(" @chunk a\n a@b @{ @<\n", 2)
        self.holds("~\n", 1)

    def test_parts(self):
        self.holds(chunk("a"), 1)
        self.holds(chunk("a b-1 2", ""), 1)
        self.holds(file("A/b_c-9.z", "x", "", " y "), 1)
        self.holds(chunk("a(x, y1)", "@<x>@<y1>@<x>"), 1)
        self.holds("p\n" + chunk("a") + file("a") + "q\n" + chunk("a"), 5)

    def test_code_lines(self):
        for row in ("@{a}", "@{a()}", "@{a(, )}", "@{a(x)}", "@{a(x y, z)}", "@{a-b 3(\"<>\", ;)}", "@{a}@{a}",
                    "@@", "@@@@", "@@{a}", "@@@{a}", "@@<x>", "@@if x", "if x", " @{a} ", "}{)(,><", "@{a}}", "@{a})"):
            self.holds(chunk("a", row), 1)

    def test_condition_lines(self):
        self.holds(chunk("a", "@if x", "@fi"), 1)
        self.holds(chunk("a", "@if x", "1", "@else", "2", "@fi", "@if x", "@else", "@fi"), 1)
        self.holds(chunk("a", "@if x", "@if y", "@else", "@fi", "@else", "@if z", "@fi", "@fi"), 1)

    def test_a_setting_needs_no_parameter(self):
        self.holds(chunk("a(x)", "@if y", "@fi"), 1)

    def test_the_later_text_is_held(self):
        self.assertEqual(run(read("a\nb\n"), read("c\n"), show()), [[0, 2], [0, 1], shown("c\n")])

    def test_a_fault_changes_nothing(self):
        for text in ("a", "@x\n", chunk("a", "@"), chunk("a", "@fi"), chunk("a", "@<x>"), "\n" * 201,
                     chunk("a") + chunk("a(x)"), "@chunk a\n"):
            found = run(read(EXAMPLE), read(text), show(), size())
            self.assertGreater(found[1][0], 0, text)
            self.assertEqual(found[2], shown(EXAMPLE))
            self.assertEqual(found[3], run(read(EXAMPLE), size())[1])

    def test_bytes_of_a_text(self):
        full = ended(*["p" * 199] * 100)
        self.assertEqual(run(read(full)), [[0, 100]])
        self.assertEqual(run(read("q\n"), read(full + "\n"), show()), [[0, 1], [-6], shown("q\n")])

    def test_too_many_bytes_come_before_a_fault(self):
        self.assertEqual(run(read("@" * 20001)), [[-6]])
        self.assertEqual(run(read("@" * 20000)), [[1, 1]])


if __name__ == "__main__":
    unittest.main()
