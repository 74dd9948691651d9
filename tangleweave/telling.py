"""The calls that tell what a document is and change nothing. Each gives back the numbers of its answer."""

from tangleweave.blocks import block_text, blocks_text, count_lines, parts_among
from tangleweave.refusals import NO_SUCH_PLACE


def counted(text):
    return [len(text)] + text


def show(document):
    return counted(blocks_text(document.blocks))


def block(document, i):
    if not 0 <= i < len(document.blocks):
        return [NO_SUCH_PLACE]
    chosen = document.blocks[i]
    return [chosen.kind] + counted(block_text(chosen))


def size(document):
    blocks = document.blocks
    return [len(blocks), len(parts_among(blocks)), count_lines(blocks), len(blocks_text(blocks))]
