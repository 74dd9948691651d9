"""Promise 1, read: each reason of a fault, its line, and which one counts of several."""

import unittest

from calling import chunk, ended, file, read, run


class Faults(unittest.TestCase):
    def holds(self, text):
        self.assertEqual(run(read(text))[0][0], 0, text)

    def faults(self, text, line, reason):
        self.assertEqual(run(read(text)), [[line, reason]], text)

    def no_header(self, header):
        self.faults(ended("p", header, "@end"), 2, 2)

    def no_line(self, row):
        self.faults(chunk("a(x)", "", row), 3, 3)

    def header(self, header):
        self.holds(ended("p", header, "@end"))

    def line(self, row):
        self.holds(chunk("a(x)", "", row))


class Reason1(Faults):
    def test_a_line_that_is_not_ended(self):
        self.faults("a", 1, 1)
        self.faults("a\nb", 2, 1)
        self.faults("a\n\n ", 3, 1)
        self.faults("@chunk a\n@end", 2, 1)
        self.faults("@chunk a\nx", 2, 1)

    def test_bytes_that_are_no_signs(self):
        for byte in (0, 9, 11, 13, 31, 127, 128, 255):
            self.faults("a\nb" + bytes([byte]).decode("latin-1") + "\n", 2, 1)
            self.faults(chunk("a", bytes([byte]).decode("latin-1")), 2, 1)
        self.holds("a\n ~\n")

    def test_lines_of_200_and_201_bytes(self):
        self.holds("p" * 200 + "\n")
        self.faults("p" * 201 + "\n", 1, 1)
        self.holds(chunk("a", "c" * 200))
        self.faults(chunk("a", "c" * 201), 2, 1)
        self.holds(chunk("a", "@@" * 100))
        self.faults(chunk("a", "@@" * 100 + "c"), 2, 1)


class Reason2(Faults):
    def test_what_begins_with_at_and_is_no_header(self):
        for header in ("@", "@ ", "@x", "@end", "@chunk", "@file", "@chunka", "@filea", "@Chunk a", "@if x", "@else",
                       "@fi", "@{a}", "@<x>", "@chunk a @", "@ @"):
            self.no_header(header)

    def test_names(self):
        for name in ("", " a", "a ", "a  b", "A", "a_b", "a.b", "a@", "n" * 31, "n" * 15 + " " + "n" * 15, "a,b"):
            self.no_header("@chunk " + name)
        for name in ("a", "0", "-", "a b", "- 0 z", "n" * 30, "n" * 15 + " " + "n" * 14, "az09-"):
            self.header("@chunk " + name)
        for name in ("`", "{", "/", ":"):
            self.no_header("@chunk " + name)

    def test_paths(self):
        for path in ("", " a", "a ", "a b", "a+b", "p" * 41, "a(x)", "a@", "[", "`", "{", ":", ","):
            self.no_header("@file " + path)
        for path in ("a", ".", "_", "/", "-", "p" * 40, "AZaz09._/-", "../x"):
            self.header("@file " + path)

    def test_parameters(self):
        for told in ("()", "( )", "(x", "x)", "(x))", "((x)", "(x,y)", "(x,  y)", "(x, )", "(, x)", "(x ,y)", "(x, x)",
                     "(a, b, c, d, e)", "(X)", "(1x)", "(x-y)", "(x y)", "(x) ", " (x)", "(x)y", "(x)(y)",
                     "(" + "s" * 13 + ")", "(x, y, x)", "(`)", "({)"):
            self.no_header("@chunk a" + told)
        for told in ("(x)", "(x, y)", "(a, b, c, d)", "(x9z)", "(" + "s" * 12 + ")"):
            self.header("@chunk a" + told)


class Reason3(Faults):
    def test_what_is_no_line(self):
        for row in ("@", "a@", "a@b", "@ @", "@@@", "@end ", " @end", "@ends", "@chunk b", "@file f", "@Fi", "@fi ", "@else ",
                    "@elsex", " @fi", " @else", "@if", "@if ", " @if x", "a @if x"):
            self.no_line(row)

    def test_settings(self):
        for setting in ("", " x", "x ", "X", "1x", "x-y", "x y", "s" * 13, "@", "x@@"):
            self.no_line("@if " + setting)
        for setting in ("x", "x1", "s" * 12):
            self.holds(chunk("a", "@if " + setting, "@fi"))

    def test_parameters(self):
        for row in ("@<", "@<>", "@<x", "@< x>", "@<x >", "@<X>", "@<1>", "@<" + "s" * 13 + ">", "@<x}", "@<@<x>>"):
            self.no_line(row)
        self.holds(chunk("a(" + "s" * 12 + ")", "@<" + "s" * 12 + ">"))
        self.line("@<x>>")

    def test_names_of_uses(self):
        for row in ("@{", "@{}", "@{a", "@{ a}", "@{a }", "@{A}", "@{a  b}", "@{a>", "@{@{a}}", "@{a@@}",
                    "@{" + "n" * 31 + "}", "@{(x)}"):
            self.no_line(row)
        for row in ("@{" + "n" * 30 + "}", "@{a b}", "@{0}", "@{-}"):
            self.line(row)

    def test_arguments(self):
        for told in ("(", ")", "(()", "())", "(x) ", " (x)", "(x)(y)", "( )", "(x )", "( x)", "(x,y)", "(x,)", "(,)",
                     "(x,  y)", "(x , y)", "(x, y )", "({)", "(@@)", "(@<x>)", "(" + "s" * 41 + ")", "(,  )", "(x)y"):
            self.no_line("@{a" + told + "}")
        for told in ("()", "(, )", "(, , )", "(x)", "(x, y)", "(x, )", "(x  y)", "(X!\"#$+-./:;<=>?[\\]^_`|~')",
                     "(" + "s" * 40 + ")", "(" + "s" * 40 + ", " + "s" * 40 + ")", "(1, 2, 3, 4, 5, 6, 7)"):
            self.line("@{a" + told + "}")


class Reason4(Faults):
    def test_the_end_while_a_condition_is_open(self):
        self.faults(chunk("a", "@if x"), 3, 4)
        self.faults(chunk("a", "@if x", "@else"), 4, 4)
        self.faults(chunk("a", "@if x", "@if x", "@fi"), 5, 4)

    def test_what_belongs_to_no_condition(self):
        self.faults(chunk("a", "@fi"), 2, 4)
        self.faults(chunk("a", "@else"), 2, 4)
        self.faults(chunk("a", "@if x", "@fi", "@fi"), 4, 4)
        self.faults(chunk("a", "@if x", "@fi", "@else"), 4, 4)
        self.faults(chunk("a", "@if x", "@fi") + chunk("a", "@fi"), 6, 4)

    def test_a_second_else(self):
        self.faults(chunk("a", "@if x", "@else", "@else", "@fi"), 4, 4)
        self.faults(chunk("a", "@if x", "@else", "@if y", "@else", "@fi", "@else", "@fi"), 7, 4)
        self.holds(chunk("a", "@if x", "@if y", "@else", "@fi", "@else", "@fi"))
        self.holds(chunk("a", "@if x", "@else", "@if y", "@else", "@fi", "@fi"))

    def test_6_and_7_conditions(self):
        six = ["@if x"] * 6
        self.holds(chunk("a", *six, *["@fi"] * 6))
        self.faults(chunk("a", *six, "@if x", *["@fi"] * 7), 8, 4)
        self.holds(chunk("a", *six, "@fi", "@if x", *["@fi"] * 6))
        self.faults(chunk("a", *six, "@else", "@if x", *["@fi"] * 7), 9, 4)


class Reason5(Faults):
    def test_parameters_that_the_header_does_not_tell(self):
        self.faults(chunk("a", "@<x>"), 2, 5)
        self.faults(chunk("a(x)", "@<x>", "@<x>@<y>"), 3, 5)
        self.faults(file("f", "@<x>"), 2, 5)
        self.faults(chunk("a(xy)", "@<x>"), 2, 5)
        self.faults(chunk("a(x)", "@<x>") + chunk("b", "@<x>"), 5, 5)
        self.faults(chunk("a", "@if x", "@<x>", "@fi"), 3, 5)


class Reason6(Faults):
    def test_200_and_201_blocks(self):
        self.holds("\n" * 200)
        self.faults("\n" * 201, 201, 6)
        self.faults("\n" * 200 + file("f"), 201, 6)
        self.holds("\n" * 199 + file("f", "x"))
        self.faults("\n" * 199 + file("f", "x") + "\n", 203, 6)

    def test_60_and_61_chunk_parts(self):
        self.holds(file("f") * 30 + chunk("a") * 30)
        self.faults(file("f") * 30 + chunk("a") * 31, 121, 6)
        self.faults(chunk("a") * 60 + file("f"), 121, 6)
        self.holds(chunk("a") * 60 + "p\n")

    def test_400_and_401_lines(self):
        self.holds(chunk("a", *[""] * 400))
        self.faults(chunk("a", *[""] * 401), 402, 6)
        self.holds(chunk("a", *[""] * 399) + "p\n" + file("f", "x") + chunk("b"))
        self.faults(chunk("a", *[""] * 399) + "p\n" + file("f", "x", "y"), 405, 6)
        self.faults(chunk("a", *[""] * 399, "@if x", "@fi"), 402, 6)


class Reason7(Faults):
    def test_other_parameters_than_an_earlier_part(self):
        self.faults(chunk("a") + chunk("a(x)"), 3, 7)
        self.faults(chunk("a(x)") + chunk("a"), 3, 7)
        self.faults(chunk("a(x, y)") + "p\n" + chunk("a(y, x)"), 4, 7)
        self.faults(chunk("a(x)") + chunk("b") + chunk("a(x, y)"), 5, 7)
        self.holds(chunk("a(x)") + chunk("b(y)") + chunk("a(x)"))
        self.holds(file("a") + chunk("a(x)") + file("a"))


class Reason8(Faults):
    def test_a_missing_end(self):
        self.faults("@chunk a\n", 2, 8)
        self.faults("p\n@file f\nx\n\n", 5, 8)
        self.faults("@chunk a\n@if x\n", 3, 8)


class WhichCounts(Faults):
    def test_the_first_line_counts(self):
        self.faults("@x\n\x00\n", 1, 2)
        self.faults("\x00\n@x\n", 1, 1)
        self.faults(chunk("a", "@fi", "@"), 2, 4)
        self.faults(chunk("a", "@<x>") + "@x", 2, 5)
        self.faults("@chunk a\n@fi\n", 2, 4)
        self.faults("@chunk a\n@chunk a\n", 2, 3)

    def test_1_before_the_others(self):
        self.faults("@x", 1, 1)
        self.faults("@x\x00\n", 1, 1)
        self.faults("@chunk a\n@", 2, 1)
        self.faults("@chunk a\n@fi", 2, 1)
        self.faults("@chunk a\n@<x>", 2, 1)
        self.faults("\n" * 200 + "p", 201, 1)
        self.faults(chunk("a") + "@chunk a(x)", 3, 1)

    def test_2_before_6(self):
        self.faults("\n" * 200 + "@x\n", 201, 2)
        self.faults(chunk("a") * 60 + "@end\n", 121, 2)

    def test_3_before_6(self):
        self.faults(chunk("a", *[""] * 400, "@"), 402, 3)

    def test_4_before_6(self):
        self.faults(chunk("a", *[""] * 400, "@fi"), 402, 4)
        self.faults(chunk("a", *[""] * 399, "@if x", "@else"), 402, 6)
        self.faults(chunk("a", *[""] * 399, "@if x"), 402, 4)

    def test_5_before_6(self):
        self.faults(chunk("a", *[""] * 400, "@<x>"), 402, 5)

    def test_6_before_7(self):
        self.faults(chunk("a") + "\n" * 199 + chunk("a(x)"), 202, 6)
        self.faults(chunk("a") * 60 + chunk("a(x)"), 121, 6)


if __name__ == "__main__":
    unittest.main()
