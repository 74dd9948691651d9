"""All promises: many lists of calls, drawn with a fixed seed, against the model's answers."""

import random
import unittest

import calling
from model import Model

NAMES = ["a", "b", "a b", "c-1", "n" * 30]
PATHS = ["f", "A/b.c", "p" * 40]
SHORTS = ["x", "y", "z1", "s" * 12]
ARGUMENTS = ["", "x", "a b", "s" * 40, "<>"]
LITERALS = ["x", " ", "@@", "if x", "}", "a,b()"]
WRONG = ["", "A", "a ", "n" * 31, "p" * 41, "s" * 13, "\n", "a  b", "@"]
ODD_ROWS = ["@", "@end", "@fi", "@else", "@if x", "@<z>", "@x", "@{a", "@{a( )}", "@{a(x,y)}", "\x7f", "p" * 201,
            "@chunk a", "@chunk a(x)", "@chunk a()", "@file", "@file f", "@{a(" + "s" * 41 + ")}"]
NUMBERS = {"block": 1, "cut": 2, "move": 3, "pieces": 2, "size": 0}
SIGNS = "@@@{}<>(), \nafix01-AZ~\x00\xff"


class Draw:
    """Texts and calls, mostly right and sometimes wrong."""

    def __init__(self, seed):
        self.random = random.Random(seed)
        # Names keep their parameters in most parts, or nearly no text would be a document's.
        self.told = {name: self.random.sample(SHORTS, self.random.randrange(3)) for name in NAMES}

    def chance(self, percent):
        return self.random.randrange(100) < percent

    def one(self, *lists):
        return self.random.choice(self.random.choice(lists))

    def few(self, most, make):
        return [make() for count in range(self.random.randrange(most + 1))]

    def piece(self, parameters):
        kind = self.random.randrange(4)
        if kind == 0 and parameters:
            return "@<" + self.one(parameters) + ">"
        if kind == 1:
            arguments = [self.one(ARGUMENTS)] + self.few(2, lambda: self.one(ARGUMENTS))
            return "@{" + self.one(NAMES) + "(" + ", ".join(arguments) + ")}"
        return "@{" + self.one(NAMES) + "}" if kind == 2 else self.one(LITERALS)

    def rows(self, parameters, depth):
        found = self.few(3, lambda: "".join(self.few(4, lambda: self.piece(parameters))))
        if depth < 7 and self.chance(30):
            found.append("@if " + self.one(SHORTS))
            found += self.rows(parameters, depth + 1)
            if self.chance(40):
                found += ["@else"] + self.rows(parameters, depth + 1)
            found.append("@fi")
        return found

    def block(self):
        if self.chance(40):
            return [self.one(["", "prose", " @x", "@@"])]
        if self.chance(40):
            return ["@file " + self.one(PATHS)] + self.rows([], 0) + ["@end"]
        name = self.one(NAMES)
        told = "(" + ", ".join(self.told[name]) + ")" if self.told[name] else ""
        return ["@chunk " + name + told] + self.rows(self.told[name], 0) + ["@end"]

    def text_of(self, rows):
        if self.chance(15):
            rows.insert(self.random.randrange(len(rows) + 1), self.one(ODD_ROWS))
        text = "".join(row + "\n" for row in rows)
        if self.chance(15) and text:
            place = self.random.randrange(len(text))
            text = text[:place] + self.one(SIGNS) + text[place + self.random.randrange(2):]
        return text

    def text(self, most):
        return self.text_of([row for block in self.few(most, self.block) for row in block])

    def lines(self):
        return self.text_of(self.rows(self.one([[], SHORTS]), 0))

    def number(self):
        return self.random.choice([0] * 6 + [1] * 5 + [2] * 3 + [3, 3, 4, 5, -1, 9, 10 ** 18, -10 ** 18])

    def call(self):
        """The name of a call, and its arguments."""
        number = self.number
        name = self.random.choice(["read", "put", "put", "cut", "move", "lines", "lines", "block", "rename", "rename", "refile",
                                   "reparam", "reparam", "resettle", "resettle", "parts", "uses", "params", "pieces", "pieces",
                                   "pieces", "size"])
        if name in NUMBERS:
            return name, [number() for count in range(NUMBERS[name])]
        if name == "read":
            return name, [self.text(8)]
        if name == "put":
            return name, [number(), self.text(3)]
        if name == "lines":
            return name, [number(), number(), number(), self.lines()]
        if name == "reparam":
            chunk = self.one(NAMES)
            return name, [chunk, self.one(SHORTS, self.told[chunk] or SHORTS), self.one(SHORTS, WRONG, ["new"])]
        if name == "parts":
            return name, [number(), self.one(NAMES, PATHS, WRONG)]
        if name in ("uses", "params"):
            return name, [self.one(NAMES, NAMES, PATHS, WRONG)]
        known = {"rename": NAMES, "refile": PATHS, "resettle": SHORTS}[name]
        return name, [self.one(known), self.one(known, WRONG, ["new"])]


class AgainstTheModel(unittest.TestCase):
    def test_drawn_calls(self):
        for seed in range(2500):
            draw = Draw(seed)
            # With the calls that tell behind each one it is 40 calls.
            drawn = [("read", [draw.text(8)])] + [draw.call() for count in range(7)]
            model = Model()
            calls = []
            expected = []
            for name, arguments in drawn:
                for called, handed in [(name, arguments)] + [(told, []) for told in ("show", "names", "files", "settings")]:
                    calls.append(getattr(calling, called)(*handed))
                    expected.append(getattr(model, called)(*handed))
            self.assertEqual(calling.run(*calls), expected, seed)


if __name__ == "__main__":
    unittest.main()
