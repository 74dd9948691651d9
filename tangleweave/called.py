"""A name with a list in round brackets behind it, or without: the form that headers and uses share."""

from tangleweave.signs import BLANK, COMMA, ROUND_CLOSE, ROUND_OPEN, codes, place_of
from tangleweave.words import is_name


class Called:
    def __init__(self, name, entries):
        self.name = name
        self.entries = entries


# The entries with a comma and a blank between neighbours; None if a comma has no blank behind it.
def split_listed(row):
    entries = []
    start = 0
    for place in range(len(row)):
        if row[place] == COMMA:
            if row[place + 1:place + 2] != (BLANK,):
                return None
            entries.append(row[start:place])
            start = place + 2
    entries.append(row[start:])
    return tuple(entries)


# The name and the entries, which are not looked at further; None if the row has another form.
def read_called(row):
    opening = place_of(row, ROUND_OPEN, 0)
    name = row[:opening]
    if not is_name(name):
        return None
    if opening == len(row):
        return Called(name, ())
    if row[-1] != ROUND_CLOSE:
        return None
    entries = split_listed(row[opening + 1:-1])
    if entries is None:
        return None
    return Called(name, entries)


def called_text(name, entries):
    text = list(name)
    for place in range(len(entries)):
        text.extend(codes("(") if place == 0 else codes(", "))
        text.extend(entries[place])
    if len(entries) > 0:
        text.append(ROUND_CLOSE)
    return text
