"""The calls that change a name everywhere at once. Each gives back the numbers of its answer."""

from tangleweave.blocks import CHUNK, FILE, Part, is_part
from tangleweave.codelines import IF, PARAMETER, USE, Line, Piece
from tangleweave.refusals import NO_DOCUMENT, NOT_FITTING, NOT_THERE, TAKEN, WRONG_FORM
from tangleweave.standing import (
    ifs_among, parts_of, standing_files, standing_names, standing_settings, use_places,
)
from tangleweave.words import is_name, is_path, is_short_name


# Whether new is another one of those that are known: to keep the old one is no clash.
def is_taken(new, old, known):
    return new != old and new in known


def changed_row(row, old, new):
    return new if row == old else row


def changed_piece(piece, kind, old, new):
    if piece.kind != kind:
        return piece
    return Piece(kind, changed_row(piece.text, old, new), piece.arguments)


# The line with new for old in its pieces of this kind.
def changed_line(line, kind, old, new):
    pieces = tuple([changed_piece(piece, kind, old, new) for piece in line.pieces])
    return Line(line.kind, pieces, line.setting)


def changed_lines(part, kind, old, new):
    return [changed_line(line, kind, old, new) for line in part.lines]


def renamed(block, old, new):
    if not is_part(block):
        return block
    name = changed_row(block.name, old, new) if block.kind == CHUNK else block.name
    return Part(block.kind, name, block.parameters, changed_lines(block, USE, old, new))


def rename(document, old, new):
    names = standing_names(document.blocks)
    if old not in names:
        return [NOT_THERE]
    if not is_name(new):
        return [WRONG_FORM]
    if is_taken(new, old, names):
        return [TAKEN]
    if not document.hold([renamed(block, old, new) for block in document.blocks]):
        return [NO_DOCUMENT]
    return [len(parts_of(document.blocks, CHUNK, new)), len(use_places(document.blocks, new))]


def refiled(block, old, new):
    if block.kind != FILE:
        return block
    return Part(FILE, changed_row(block.name, old, new), block.parameters, block.lines)


def refile(document, old, new):
    files = standing_files(document.blocks)
    if old not in files:
        return [NOT_THERE]
    if not is_path(new):
        return [WRONG_FORM]
    if is_taken(new, old, files):
        return [TAKEN]
    if not document.hold([refiled(block, old, new) for block in document.blocks]):
        return [NO_DOCUMENT]
    return [len(parts_of(document.blocks, FILE, new))]


def reparametered(block, name, old, new):
    if block.kind != CHUNK or block.name != name:
        return block
    parameters = tuple([changed_row(parameter, old, new) for parameter in block.parameters])
    return Part(CHUNK, name, parameters, changed_lines(block, PARAMETER, old, new))


def reparam(document, name, old, new):
    parts = parts_of(document.blocks, CHUNK, name)
    if len(parts) == 0:
        return [NOT_THERE]
    # All parts of one name have the same parameters, so the first one tells them.
    parameters = parts[0].parameters
    if old not in parameters:
        return [NOT_FITTING]
    if not is_short_name(new):
        return [WRONG_FORM]
    if is_taken(new, old, parameters):
        return [TAKEN]
    if not document.hold([reparametered(block, name, old, new) for block in document.blocks]):
        return [NO_DOCUMENT]
    return [len(parts)]


def resettled_line(line, old, new):
    if line.kind != IF:
        return line
    return Line(IF, line.pieces, changed_row(line.setting, old, new))


def resettled(block, old, new):
    if not is_part(block):
        return block
    return Part(block.kind, block.name, block.parameters, [resettled_line(line, old, new) for line in block.lines])


def resettle(document, old, new):
    settings = standing_settings(document.blocks)
    if old not in settings:
        return [NOT_THERE]
    if not is_short_name(new):
        return [WRONG_FORM]
    if is_taken(new, old, settings):
        return [TAKEN]
    if not document.hold([resettled(block, old, new) for block in document.blocks]):
        return [NO_DOCUMENT]
    return [len([line for line in ifs_among(document.blocks) if line.setting == new])]
