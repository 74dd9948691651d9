"""The document that an object holds."""

from tangleweave.blocks import blocks_text
from tangleweave.reading import NO_FAULT, read_text

MOST_BYTES = 20000


# Its blocks are never changed in place: other blocks are held instead, so a refusal leaves no trace.
class Document:
    def __init__(self):
        self.blocks = []

    # Whether these blocks are a document; if so, they are held from now on.
    def hold(self, blocks):
        text = blocks_text(blocks)
        if len(text) > MOST_BYTES:
            return False
        # A text without fault is just a document's text: reading it looks at all that a document must keep to.
        if read_text(text).reason != NO_FAULT:
            return False
        self.blocks = blocks
        return True
