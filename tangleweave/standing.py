"""What stands in a document's blocks: names, files and settings, and where each of them stands."""

from tangleweave.blocks import CHUNK, FILE, lines_of, parts_among
from tangleweave.codelines import IF, USE


# All pieces of the part's lines, in the order of its text.
def pieces_of(part):
    pieces = []
    for line in part.lines:
        pieces.extend(line.pieces)
    return pieces


# All ifs of the blocks, in the order of their text.
def ifs_among(blocks):
    ifs = []
    for part in parts_among(blocks):
        ifs.extend([line for line in part.lines if line.kind == IF])
    return ifs


# Each of the rows once, where it first came.
def each_once(rows):
    known = {}
    for row in rows:
        known[row] = True
    return list(known)


def standing_names(blocks):
    names = []
    for part in parts_among(blocks):
        if part.kind == CHUNK:
            names.append(part.name)
        names.extend([piece.text for piece in pieces_of(part) if piece.kind == USE])
    return each_once(names)


def standing_files(blocks):
    return each_once([part.name for part in parts_among(blocks) if part.kind == FILE])


def standing_settings(blocks):
    return each_once([line.setting for line in ifs_among(blocks)])


def is_part_of(block, kind, name):
    return block.kind == kind and block.name == name


# The parts of the chunk with this name, or of the file with this path.
def parts_of(blocks, kind, name):
    return [part for part in parts_among(blocks) if is_part_of(part, kind, name)]


# The numbers of the blocks that are these parts.
def part_places(blocks, kind, name):
    return [i for i, block in enumerate(blocks) if is_part_of(block, kind, name)]


# For each use with this name the numbers of its block, its line and its piece.
def use_places(blocks, name):
    places = []
    for i, block in enumerate(blocks):
        for j, line in enumerate(lines_of(block)):
            for k, piece in enumerate(line.pieces):
                if piece.kind == USE and piece.text == name:
                    places.append((i, j, k))
    return places
