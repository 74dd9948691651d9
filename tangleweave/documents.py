"""The interface: a list of calls on one new object, and the list of their answers."""

from tangleweave.editing import cut, lines, move, put, read
from tangleweave.holding import Document
from tangleweave.renaming import refile, rename, reparam, resettle
from tangleweave.telling import block, files, names, params, parts, pieces, settings, show, size, uses

READ = 0
SHOW = 1
BLOCK = 2
PUT = 3
CUT = 4
MOVE = 5
LINES = 6
RENAME = 7
REFILE = 8
REPARAM = 9
RESETTLE = 10
NAMES = 11
FILES = 12
SETTINGS = 13
PARTS = 14
USES = 15
PARAMS = 16
PIECES = 17
SIZE = 18


class Call:
    def __init__(self, kind, numbers, rows, end):
        self.kind = kind
        self.numbers = numbers
        self.rows = rows
        self.end = end


# For each kind of call how many whole numbers it has, and how many rows behind these.
def form_of(kind):
    forms = {
        READ: (0, 1),
        SHOW: (0, 0),
        BLOCK: (1, 0),
        PUT: (1, 1),
        CUT: (2, 0),
        MOVE: (3, 0),
        LINES: (3, 1),
        RENAME: (0, 2),
        REFILE: (0, 2),
        REPARAM: (0, 3),
        RESETTLE: (0, 2),
        NAMES: (0, 0),
        FILES: (0, 0),
        SETTINGS: (0, 0),
        PARTS: (1, 1),
        USES: (0, 1),
        PARAMS: (0, 1),
        PIECES: (2, 0),
        SIZE: (0, 0),
    }
    return forms[kind]


# The call that begins at start; its end is where the one behind it begins.
def call_at(calls, start):
    kind = calls[start]
    form = form_of(kind)
    place = start + 1 + form[0]
    numbers = calls[start + 1:place]
    rows = []
    while len(rows) < form[1]:
        row_end = place + 1 + calls[place]
        rows.append(tuple(calls[place + 1:row_end]))
        place = row_end
    return Call(kind, numbers, rows, place)


def edited_answer(document, call):
    numbers = call.numbers
    rows = call.rows
    if call.kind == READ:
        return read(document, rows[0])
    if call.kind == PUT:
        return put(document, numbers[0], rows[0])
    if call.kind == CUT:
        return cut(document, numbers[0], numbers[1])
    if call.kind == MOVE:
        return move(document, numbers[0], numbers[1], numbers[2])
    return lines(document, numbers[0], numbers[1], numbers[2], rows[0])


def renamed_answer(document, call):
    rows = call.rows
    if call.kind == RENAME:
        return rename(document, rows[0], rows[1])
    if call.kind == REFILE:
        return refile(document, rows[0], rows[1])
    if call.kind == REPARAM:
        return reparam(document, rows[0], rows[1], rows[2])
    return resettle(document, rows[0], rows[1])


# The calls that tell of the whole document, and have nothing handed in.
def whole_answer(document, call):
    if call.kind == SHOW:
        return show(document)
    if call.kind == NAMES:
        return names(document)
    if call.kind == FILES:
        return files(document)
    if call.kind == SETTINGS:
        return settings(document)
    return size(document)


# The calls that tell of one thing in the document.
def single_answer(document, call):
    numbers = call.numbers
    rows = call.rows
    if call.kind == BLOCK:
        return block(document, numbers[0])
    if call.kind == PARTS:
        return parts(document, numbers[0], rows[0])
    if call.kind == USES:
        return uses(document, rows[0])
    if call.kind == PARAMS:
        return params(document, rows[0])
    return pieces(document, numbers[0], numbers[1])


def answer_of(document, call):
    if call.kind in (READ, PUT, CUT, MOVE, LINES):
        return edited_answer(document, call)
    if call.kind in (RENAME, REFILE, REPARAM, RESETTLE):
        return renamed_answer(document, call)
    if call.kind in (SHOW, NAMES, FILES, SETTINGS, SIZE):
        return whole_answer(document, call)
    return single_answer(document, call)


def answers(calls):
    document = Document()
    given = []
    place = 0
    while place < len(calls):
        call = call_at(calls, place)
        answer = answer_of(document, call)
        given.append(len(answer))
        given.extend(answer)
        place = call.end
    return given
