"""The document that an object holds."""

from tangleweave.blocks import blocks_text, is_part
from tangleweave.reading import NO_FAULT, read_text
from tangleweave.refusals import NO_SUCH_PLACE, NOT_THERE

MOST_BYTES = 20000


# Its blocks are never changed in place: other blocks are held instead, so a refusal leaves no trace.
class Document:
    def __init__(self):
        self.blocks = []

    # Whether these blocks are a document; if so, they are held from now on.
    def hold(self, blocks):
        text = blocks_text(blocks)
        if len(text) > MOST_BYTES:
            return False
        # A text without fault is just a document's text: reading it looks at all that a document must keep to.
        if read_text(text).reason != NO_FAULT:
            return False
        self.blocks = blocks
        return True

    # Why block i is no chunk part, as the refusal's number; None if it is one.
    def part_refusal(self, i):
        if not 0 <= i < len(self.blocks):
            return NO_SUCH_PLACE
        if not is_part(self.blocks[i]):
            return NOT_THERE
        return None
