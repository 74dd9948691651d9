"""Reading a text into blocks, up to the first line with a fault."""

from tangleweave.blocks import CHUNK, Prose, read_header
from tangleweave.codelines import CODE, ELSE, IF, PARAMETER, read_line
from tangleweave.signs import LINE_END, begins_with, codes, is_line_of_signs, split_at

MOST_BLOCKS = 200
MOST_PARTS = 60
MOST_LINES = 400
MOST_CONDITIONS = 6

NO_FAULT = 0
NOT_A_LINE_OF_SIGNS = 1
NOT_A_HEADER = 2
NOT_A_LINE = 3
NOT_PAIRED = 4
NOT_A_PARAMETER = 5
TOO_MANY = 6
OTHER_PARAMETERS = 7
END_MISSING = 8


# What a text tells: blocks if the reason is NO_FAULT; else the line that has this fault.
class Reading:
    def __init__(self, blocks, line, reason):
        self.blocks = blocks
        self.line = line
        self.reason = reason


# Takes the lines of a text one after the other. Each take answers the line's fault, or NO_FAULT.
class Reader:
    def __init__(self):
        self.blocks = []
        self.part_count = 0
        self.line_count = 0
        self.parameters_of = {}
        # The part that the next line is within, and for each of its conditions that wait for their end,
        # the one opened last at the end, whether it had its else.
        self.part = None
        self.conditions = []

    def take(self, row):
        if not is_line_of_signs(row):
            return NOT_A_LINE_OF_SIGNS
        if self.part is None:
            return self.take_outside(row)
        if row == codes("@end"):
            return self.take_end()
        return self.take_within(row)

    def take_outside(self, row):
        if not begins_with(row, codes("@")) or begins_with(row, codes("@@")):
            return self.take_prose(row)
        part = read_header(row)
        if part is None:
            return NOT_A_HEADER
        return self.take_header(part)

    def take_prose(self, row):
        if len(self.blocks) == MOST_BLOCKS:
            return TOO_MANY
        self.blocks.append(Prose(row))
        return NO_FAULT

    def take_header(self, part):
        if len(self.blocks) == MOST_BLOCKS or self.part_count == MOST_PARTS:
            return TOO_MANY
        if part.kind == CHUNK:
            if self.parameters_of.get(part.name, part.parameters) != part.parameters:
                return OTHER_PARAMETERS
            self.parameters_of[part.name] = part.parameters
        self.blocks.append(part)
        self.part_count = self.part_count + 1
        self.part = part
        return NO_FAULT

    def take_end(self):
        if len(self.conditions) > 0:
            return NOT_PAIRED
        self.part = None
        return NO_FAULT

    def take_within(self, row):
        line = read_line(row)
        if line is None:
            return NOT_A_LINE
        if line.kind != CODE and not self.take_condition(line.kind):
            return NOT_PAIRED
        for piece in line.pieces:
            if piece.kind == PARAMETER and piece.text not in self.part.parameters:
                return NOT_A_PARAMETER
        if self.line_count == MOST_LINES:
            return TOO_MANY
        self.part.lines.append(line)
        self.line_count = self.line_count + 1
        return NO_FAULT

    # Whether a condition line of this kind may stand here.
    def take_condition(self, kind):
        if kind == IF:
            self.conditions.append(False)
            return len(self.conditions) <= MOST_CONDITIONS
        if len(self.conditions) == 0:
            return False
        had_else = self.conditions.pop()
        if kind == ELSE:
            self.conditions.append(True)
            return not had_else
        return True


def read_text(text):
    rows = split_at(tuple(text), LINE_END)
    not_ended = rows.pop()
    reader = Reader()
    for number, row in enumerate(rows, start=1):
        reason = reader.take(row)
        if reason != NO_FAULT:
            return Reading([], number, reason)
    if len(not_ended) > 0:
        return Reading([], len(rows) + 1, NOT_A_LINE_OF_SIGNS)
    if reader.part is not None:
        return Reading([], len(rows) + 1, END_MISSING)
    return Reading(reader.blocks, 0, NO_FAULT)
