"""Blocks: prose and chunk parts, their headers and their texts."""

from tangleweave.called import called_text, read_called
from tangleweave.codelines import line_text
from tangleweave.signs import LINE_END, begins_with, codes
from tangleweave.words import is_path, is_short_name

PROSE = 0
CHUNK = 1
FILE = 2

MOST_PARAMETERS = 4


class Prose:
    def __init__(self, row):
        self.kind = PROSE
        self.row = row


# A chunk part; its name is a file's path if it is of a file.
class Part:
    def __init__(self, kind, name, parameters, lines):
        self.kind = kind
        self.name = name
        self.parameters = parameters
        self.lines = lines


def is_part(block):
    return block.kind != PROSE


def parts_among(blocks):
    return [block for block in blocks if is_part(block)]


# The lines of a chunk part; prose has none.
def lines_of(block):
    return block.lines if is_part(block) else []


def count_lines(blocks):
    return sum([len(lines_of(block)) for block in blocks])


# A part without lines that has this header; None if the row is no header.
def read_header(row):
    if begins_with(row, codes("@file ")):
        return read_file_header(row[len(codes("@file ")):])
    if begins_with(row, codes("@chunk ")):
        return read_chunk_header(row[len(codes("@chunk ")):])
    return None


def read_file_header(path):
    if not is_path(path):
        return None
    return Part(FILE, path, (), [])


def read_chunk_header(row):
    called = read_called(row)
    if called is None or not are_parameters(called.entries):
        return None
    return Part(CHUNK, called.name, called.entries, [])


def are_parameters(entries):
    if len(entries) > MOST_PARAMETERS:
        return False
    return all([is_short_name(entry) and entries.count(entry) == 1 for entry in entries])


def header_text(part):
    if part.kind == FILE:
        return list(codes("@file ") + part.name)
    return list(codes("@chunk ")) + called_text(part.name, part.parameters)


def block_text(block):
    if not is_part(block):
        return list(block.row) + [LINE_END]
    text = header_text(block)
    text.append(LINE_END)
    for line in block.lines:
        text.extend(line_text(line))
        text.append(LINE_END)
    text.extend(codes("@end"))
    text.append(LINE_END)
    return text


def blocks_text(blocks):
    text = []
    for block in blocks:
        text.extend(block_text(block))
    return text
