"""Lines of chunk parts: read from their texts, and written."""

from tangleweave.called import called_text, read_called
from tangleweave.signs import ANGLE_CLOSE, AT, CURLY_CLOSE, CURLY_OPEN, begins_with, codes, place_of
from tangleweave.words import is_argument, is_short_name

LITERAL = 0
USE = 1
PARAMETER = 2

CODE = 0
IF = 1
ELSE = 2
END_OF_IF = 3


# Its text is a literal's signs, a use's name or a parameter's short name; only uses have arguments.
class Piece:
    def __init__(self, kind, text, arguments):
        self.kind = kind
        self.text = text
        self.arguments = arguments


# Only code lines have pieces, only ifs a setting.
class Line:
    def __init__(self, kind, pieces, setting):
        self.kind = kind
        self.pieces = pieces
        self.setting = setting


# The line whose text the row is; None if it is no line's.
def read_line(row):
    if row == codes("@else"):
        return Line(ELSE, (), ())
    if row == codes("@fi"):
        return Line(END_OF_IF, (), ())
    if begins_with(row, codes("@if ")):
        return read_if(row[len(codes("@if ")):])
    return read_code_line(row)


def read_if(setting):
    if not is_short_name(setting):
        return None
    return Line(IF, (), setting)


def read_code_line(row):
    pieces = []
    literal = []
    place = 0
    while place < len(row):
        step = literal_step(row, place)
        if step > 0:
            literal.append(row[place])
            place = place + step
        else:
            end = marked_end(row, place)
            piece = read_marked(row[place:end])
            if piece is None:
                return None
            pieces.extend(literal_pieces(literal))
            literal = []
            pieces.append(piece)
            place = end
    pieces.extend(literal_pieces(literal))
    return Line(CODE, tuple(pieces), ())


# How many bytes tell one sign of a literal at this place; 0 if another piece begins there.
def literal_step(row, place):
    if row[place] != AT:
        return 1
    if row[place + 1:place + 2] == (AT,):
        return 2
    return 0


# The literal as a list of pieces: a literal without signs is none.
def literal_pieces(literal):
    if len(literal) == 0:
        return []
    return [Piece(LITERAL, tuple(literal), ())]


# The place behind the use or parameter that begins at place.
def marked_end(row, place):
    # No name and no argument has the closing sign within it, so the first one that comes is the end.
    closing = CURLY_CLOSE if row[place + 1:place + 2] == (CURLY_OPEN,) else ANGLE_CLOSE
    return place_of(row, closing, place) + 1


# The use or parameter whose text the row is; None if it is none's.
def read_marked(row):
    inner = row[2:-1]
    if begins_with(row, codes("@{")) and row[-1] == CURLY_CLOSE:
        return read_use(inner)
    if begins_with(row, codes("@<")) and row[-1] == ANGLE_CLOSE and is_short_name(inner):
        return Piece(PARAMETER, inner, ())
    return None


def read_use(inner):
    called = read_called(inner)
    if called is None or not all([is_argument(entry) for entry in called.entries]):
        return None
    return Piece(USE, called.name, called.entries)


def piece_text(piece):
    if piece.kind == LITERAL:
        return literal_text(piece.text)
    if piece.kind == USE:
        return list(codes("@{")) + called_text(piece.text, piece.arguments) + list(codes("}"))
    return list(codes("@<") + piece.text + codes(">"))


def literal_text(signs):
    text = []
    for sign in signs:
        text.append(sign)
        if sign == AT:
            text.append(AT)
    return text


# The line's text, without the byte 10 that ends it.
def line_text(line):
    if line.kind == IF:
        return list(codes("@if ") + line.setting)
    if line.kind == ELSE:
        return list(codes("@else"))
    if line.kind == END_OF_IF:
        return list(codes("@fi"))
    text = []
    for piece in line.pieces:
        text.extend(piece_text(piece))
    return text
