"""The interface: a list of calls on one new object, and the list of their answers."""

from tangleweave.editing import cut, lines, move, put, read
from tangleweave.holding import Document
from tangleweave.renaming import refile, rename, reparam
from tangleweave.telling import block, show, size

READ = 0
SHOW = 1
BLOCK = 2
PUT = 3
CUT = 4
MOVE = 5
LINES = 6
RENAME = 7
REFILE = 8
REPARAM = 9
SIZE = 18


class Call:
    def __init__(self, kind, numbers, rows, end):
        self.kind = kind
        self.numbers = numbers
        self.rows = rows
        self.end = end


# For each kind of call how many whole numbers it has, and how many rows behind these.
def form_of(kind):
    forms = {
        READ: (0, 1),
        SHOW: (0, 0),
        BLOCK: (1, 0),
        PUT: (1, 1),
        CUT: (2, 0),
        MOVE: (3, 0),
        LINES: (3, 1),
        RENAME: (0, 2),
        REFILE: (0, 2),
        REPARAM: (0, 3),
        SIZE: (0, 0),
    }
    return forms[kind]


# The call that begins at start; its end is where the one behind it begins.
def call_at(calls, start):
    kind = calls[start]
    form = form_of(kind)
    place = start + 1 + form[0]
    numbers = calls[start + 1:place]
    rows = []
    while len(rows) < form[1]:
        row_end = place + 1 + calls[place]
        rows.append(tuple(calls[place + 1:row_end]))
        place = row_end
    return Call(kind, numbers, rows, place)


def told_answer(document, call):
    if call.kind == SHOW:
        return show(document)
    if call.kind == BLOCK:
        return block(document, call.numbers[0])
    return size(document)


def edited_answer(document, call):
    numbers = call.numbers
    rows = call.rows
    if call.kind == READ:
        return read(document, rows[0])
    if call.kind == PUT:
        return put(document, numbers[0], rows[0])
    if call.kind == CUT:
        return cut(document, numbers[0], numbers[1])
    if call.kind == MOVE:
        return move(document, numbers[0], numbers[1], numbers[2])
    if call.kind == LINES:
        return lines(document, numbers[0], numbers[1], numbers[2], rows[0])
    if call.kind == RENAME:
        return rename(document, rows[0], rows[1])
    if call.kind == REFILE:
        return refile(document, rows[0], rows[1])
    return reparam(document, rows[0], rows[1], rows[2])


def answer_of(document, call):
    if call.kind in (SHOW, BLOCK, SIZE):
        return told_answer(document, call)
    return edited_answer(document, call)


def answers(calls):
    document = Document()
    given = []
    place = 0
    while place < len(calls):
        call = call_at(calls, place)
        answer = answer_of(document, call)
        given.append(len(answer))
        given.extend(answer)
        place = call.end
    return given
