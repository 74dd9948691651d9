"""What stands in a document's blocks: names, files, and the parts that are of one of them."""

from tangleweave.blocks import CHUNK, FILE, parts_among
from tangleweave.codelines import USE


# All pieces of the part's lines, in the order of its text.
def pieces_of(part):
    pieces = []
    for line in part.lines:
        pieces.extend(line.pieces)
    return pieces


# A dict keeps each name once, where it first came.
def standing_names(blocks):
    names = {}
    for part in parts_among(blocks):
        if part.kind == CHUNK:
            names[part.name] = True
        for piece in pieces_of(part):
            if piece.kind == USE:
                names[piece.text] = True
    return list(names)


def standing_files(blocks):
    paths = {}
    for part in parts_among(blocks):
        if part.kind == FILE:
            paths[part.name] = True
    return list(paths)


# The parts of the chunk with this name, or of the file with this path.
def parts_of(blocks, kind, name):
    return [part for part in parts_among(blocks) if part.kind == kind and part.name == name]


def count_uses(blocks, name):
    count = 0
    for part in parts_among(blocks):
        count = count + len([piece for piece in pieces_of(part) if piece.kind == USE and piece.text == name])
    return count
