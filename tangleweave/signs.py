"""Bytes: which kinds there are, and how rows of them are looked at. A row is a tuple of bytes."""

LINE_END = 10
BLANK = 32
ROUND_OPEN = 40
ROUND_CLOSE = 41
COMMA = 44
DASH = 45
ANGLE_CLOSE = 62
AT = 64
CURLY_OPEN = 123
CURLY_CLOSE = 125

LONGEST_ROW = 200


def codes(text):
    return tuple([ord(letter) for letter in text])


def is_sign(byte):
    return 32 <= byte <= 126


def is_small_letter(byte):
    return 97 <= byte <= 122


def is_capital_letter(byte):
    return 65 <= byte <= 90


def is_digit(byte):
    return 48 <= byte <= 57


def begins_with(row, head):
    return row[:len(head)] == head


# The first place of the byte from start on; the row's length if there is none.
def place_of(row, byte, start):
    for place in range(start, len(row)):
        if row[place] == byte:
            return place
    return len(row)


def is_line_of_signs(row):
    return len(row) <= LONGEST_ROW and all([is_sign(byte) for byte in row])


# What stands between the bytes of this kind, ahead of the first and behind the last; empty rows count too.
def split_at(row, byte):
    rows = []
    start = 0
    for place in range(len(row)):
        if row[place] == byte:
            rows.append(row[start:place])
            start = place + 1
    rows.append(row[start:])
    return rows
