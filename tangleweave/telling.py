"""The calls that tell what a document is and change nothing. Each gives back the numbers of its answer."""

from tangleweave.blocks import CHUNK, FILE, block_text, blocks_text, count_lines, parts_among
from tangleweave.codelines import CODE, IF, USE
from tangleweave.refusals import NO_SUCH_PLACE, NOT_THERE
from tangleweave.standing import (
    part_places, parts_of, standing_files, standing_names, standing_settings, use_places,
)


def counted(row):
    return [len(row)] + list(row)


def counted_texts(rows):
    told = [len(rows)]
    for row in rows:
        told.extend(counted(row))
    return told


def show(document):
    return counted(blocks_text(document.blocks))


def block(document, i):
    if not 0 <= i < len(document.blocks):
        return [NO_SUCH_PLACE]
    chosen = document.blocks[i]
    return [chosen.kind] + counted(block_text(chosen))


def names(document):
    return counted_texts(standing_names(document.blocks))


def files(document):
    return counted_texts(standing_files(document.blocks))


def settings(document):
    return counted_texts(standing_settings(document.blocks))


# The parts of a chunk if the first number is 0, of a file if it is 1.
def parts(document, of_file, name):
    if of_file not in (0, 1):
        return [NO_SUCH_PLACE]
    kind = FILE if of_file == 1 else CHUNK
    return counted(part_places(document.blocks, kind, name))


def uses(document, name):
    places = use_places(document.blocks, name)
    told = [len(places)]
    for place in places:
        told.extend(place)
    return told


def params(document, name):
    found = parts_of(document.blocks, CHUNK, name)
    if len(found) == 0:
        return [NOT_THERE]
    # All parts of one name have the same parameters, so the first one tells them.
    return counted_texts(found[0].parameters)


def pieces(document, i, j):
    refusal = document.part_refusal(i)
    if refusal is not None:
        return [refusal]
    part = document.blocks[i]
    if not 0 <= j < len(part.lines):
        return [NO_SUCH_PLACE]
    return line_numbers(part.lines[j])


# What pieces answers of this line: the kinds of lines and pieces are numbered as it tells them.
def line_numbers(line):
    if line.kind == IF:
        return [IF] + counted(line.setting)
    if line.kind != CODE:
        return [line.kind]
    told = [CODE, len(line.pieces)]
    for piece in line.pieces:
        told.extend(piece_numbers(piece))
    return told


def piece_numbers(piece):
    told = [piece.kind] + counted(piece.text)
    if piece.kind == USE:
        told.extend(counted_texts(piece.arguments))
    return told


def size(document):
    blocks = document.blocks
    return [len(blocks), len(parts_among(blocks)), count_lines(blocks), len(blocks_text(blocks))]
