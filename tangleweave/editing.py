"""The calls that change which blocks and lines a document has. Each gives back the numbers of its answer."""

from tangleweave.blocks import Part, blocks_text
from tangleweave.codelines import read_line
from tangleweave.holding import MOST_BYTES
from tangleweave.reading import NO_FAULT, read_text
from tangleweave.refusals import NO_DOCUMENT, NO_SUCH_PLACE, NOT_FITTING, WRONG_FORM
from tangleweave.signs import LINE_END, is_line_of_signs, split_at


def read(document, text):
    if len(text) > MOST_BYTES:
        return [NO_DOCUMENT]
    reading = read_text(text)
    if reading.reason != NO_FAULT:
        return [reading.line, reading.reason]
    document.blocks = reading.blocks
    return [0, len(document.blocks)]


def put(document, i, text):
    blocks = document.blocks
    if not 0 <= i <= len(blocks):
        return [NO_SUCH_PLACE]
    reading = read_text(text)
    if reading.reason != NO_FAULT:
        return [WRONG_FORM]
    if not document.hold(blocks[:i] + reading.blocks + blocks[i:]):
        return [NO_DOCUMENT]
    return [len(document.blocks)]


# Whether so many stand from start on, in a row of whole; behind its end there stand none.
def is_stretch(start, length, whole):
    return 0 <= start <= whole and 0 <= length <= whole - start


def cut(document, i, n):
    blocks = document.blocks
    if not is_stretch(i, n, len(blocks)):
        return [NO_SUCH_PLACE]
    document.blocks = blocks[:i] + blocks[i + n:]
    return [len(document.blocks)]


def move(document, i, n, j):
    blocks = document.blocks
    if not is_stretch(i, n, len(blocks)) or not 0 <= j <= len(blocks):
        return [NO_SUCH_PLACE]
    if i < j < i + n:
        return [NOT_FITTING]
    others = blocks[:i] + blocks[i + n:]
    target = j if j <= i else j - n
    document.blocks = others[:target] + blocks[i:i + n] + others[target:]
    # Blocks may be alike, so that another order is the same document all the same.
    return [1 if blocks_text(document.blocks) != blocks_text(blocks) else 0]


# The lines whose texts, each ended by the byte 10, make the text; None if it is no such text.
def read_lines(text):
    rows = split_at(text, LINE_END)
    not_ended = rows.pop()
    if len(not_ended) > 0:
        return None
    lines_read = []
    for row in rows:
        line = read_line(row) if is_line_of_signs(row) else None
        if line is None:
            return None
        lines_read.append(line)
    return lines_read


def lines(document, i, j, n, text):
    refusal = document.part_refusal(i)
    if refusal is not None:
        return [refusal]
    blocks = document.blocks
    part = blocks[i]
    if not is_stretch(j, n, len(part.lines)):
        return [NO_SUCH_PLACE]
    new_lines = read_lines(text)
    if new_lines is None:
        return [WRONG_FORM]
    changed = Part(part.kind, part.name, part.parameters, part.lines[:j] + new_lines + part.lines[j + n:])
    if not document.hold(blocks[:i] + [changed] + blocks[i + 1:]):
        return [NO_DOCUMENT]
    return [len(changed.lines)]
