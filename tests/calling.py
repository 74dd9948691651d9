"""Calls as the interface wants them, written with Python's own texts."""

import unittest

from tangleweave.documents import answers

FARTHEST = 10 ** 18


def codes(text):
    return list(text.encode("latin-1"))


def row(text):
    return [len(codes(text))] + codes(text)


def read(text):
    return [0] + row(text)


def show():
    return [1]


def block(i):
    return [2, i]


def put(i, text):
    return [3, i] + row(text)


def cut(i, n):
    return [4, i, n]


def move(i, n, j):
    return [5, i, n, j]


def lines(i, j, n, text):
    return [6, i, j, n] + row(text)


def rename(old, new):
    return [7] + row(old) + row(new)


def refile(old, new):
    return [8] + row(old) + row(new)


def reparam(name, old, new):
    return [9] + row(name) + row(old) + row(new)


def resettle(old, new):
    return [10] + row(old) + row(new)


def names():
    return [11]


def files():
    return [12]


def settings():
    return [13]


def parts(of_file, name):
    return [14, of_file] + row(name)


def uses(name):
    return [15] + row(name)


def params(name):
    return [16] + row(name)


def pieces(i, j):
    return [17, i, j]


def size():
    return [18]


def joined(calls):
    return [number for call in calls for number in call]


def split(given):
    found = []
    place = 0
    while place < len(given):
        end = place + 1 + given[place]
        found.append(given[place + 1:end])
        place = end
    return found


def run(*calls):
    """The answers of the calls on one new object, a list each."""
    return split(answers(joined(calls)))


def ended(*rows):
    """The text that has these lines."""
    return "".join(one + "\n" for one in rows)


def shown(text):
    """What show answers while this is the document's text."""
    return row(text)


def texts(*told):
    """Texts as they are answered: how many they are, and then each as a text."""
    return [len(told)] + joined(row(text) for text in told)


def chunk(header, *rows):
    return ended("@chunk " + header, *rows, "@end")


def file(path, *rows):
    return ended("@file " + path, *rows, "@end")


def prose_of(count):
    """Lines of prose whose text has just so many bytes."""
    if count == 0:
        return ""
    full = (count - 1) // 201
    return ended(*["p" * 200] * full, "p" * (count - 201 * full - 1))


EXAMPLE = ended(
    "To greet:",
    "@file main.txt",
    "begin",
    "  @{greet(you)}",
    "@if loud",
    "  @{greet(ALL)} @@",
    "@fi",
    "@end",
    "@chunk greet(x)",
    "Hello, @<x>!",
    "@end",
)

# 300 uses of a, 6 a line, in the file f: with a name of 30 bytes for a it has 8700 bytes more.
GROWING = file("f", *["@{a}" * 6] * 50)
LONG_NAME = "n" * 30


def nearly_full(count):
    """A text that has just count bytes when its name a has become LONG_NAME; its last block is the file f's part."""
    return prose_of(count - 8700 - len(GROWING)) + GROWING


class Edits(unittest.TestCase):
    """For tests of a call that edits: what it answers, and what is shown behind it."""

    def gives(self, text, call, answer, then):
        self.assertEqual(run(read(text), call, show())[1:], [answer, shown(then)], call)

    def refuses(self, text, call, refusal):
        self.gives(text, call, [refusal], text)


class Tells(unittest.TestCase):
    """For tests of a call that tells: what it answers, twice, and that the text and its size stay as they were."""

    def tells(self, text, call, answer):
        found = run(read(text), size(), call, call, show(), size())
        self.assertEqual(found[2:5], [answer, answer, shown(text)], call)
        self.assertEqual(found[5], found[1], call)
