"""The document's words once more, over Python's own texts and patterns, to hold the program against."""

import re

NAME = r"[a-z0-9-]+(?: [a-z0-9-]+)*"
SHORT = r"[a-z][a-z0-9]{0,11}"
ARGUMENT = r"[^,(){}@]*"
PIECE = re.compile(
    rf"(?P<literal>(?:@@|[^@])+)"
    rf"|@\{{(?P<name>{NAME})(?:\((?P<arguments>{ARGUMENT}(?:, {ARGUMENT})*)\))?\}}"
    rf"|@<(?P<parameter>{SHORT})>"
)
HEADER = re.compile(rf"@chunk (?P<name>{NAME})(?:\((?P<parameters>{SHORT}(?:, {SHORT})*)\))?|@file (?P<path>.*)")


def is_name(text):
    return len(text) <= 30 and re.fullmatch(NAME, text) is not None


def is_path(text):
    return re.fullmatch(r"[A-Za-z0-9._/-]{1,40}", text) is not None


def is_short(text):
    return re.fullmatch(SHORT, text) is not None


def pieces(row):
    """The matches that a code line is made of, or None."""
    found = []
    place = 0
    while place < len(row):
        piece = PIECE.match(row, place)
        if piece is None or len(piece["name"] or "") > 30:
            return None
        for argument in (piece["arguments"] or "").split(", "):
            if len(argument) > 40 or argument != argument.strip(" "):
                return None
        found.append(piece)
        place = piece.end()
    return found


def is_line(row):
    return row in ("@else", "@fi") or re.fullmatch("@if " + SHORT, row) is not None or pieces(row) is not None


def header(row):
    """Kind, name and parameters, or None."""
    found = HEADER.fullmatch(row)
    if found is None:
        return None
    if found["path"] is not None:
        return (2, found["path"], []) if is_path(found["path"]) else None
    parameters = found["parameters"].split(", ") if found["parameters"] else []
    if len(parameters) > 4 or len(set(parameters)) < len(parameters) or not is_name(found["name"]):
        return None
    return (1, found["name"], parameters)


def unpaired(row, conditions):
    """Whether the row may not stand where these conditions are open; they are kept up to date."""
    if row.startswith("@if "):
        conditions.append("if")
        return len(conditions) > 6
    if row in ("@else", "@fi") and not conditions:
        return True
    if row == "@else":
        conditions.append({"if": "else"}.get(conditions.pop()))
        return conditions[-1] is None
    if row == "@fi":
        conditions.pop()
    return False


def parse(text):
    """(line, reason, blocks), with line and reason 0 if there is no fault. A block is the list of its rows."""
    rows = text.split("\n")
    last = rows.pop()
    blocks, told, conditions, part, parts, lines = [], {}, [], None, 0, 0
    for number, row in enumerate(rows, start=1):
        outside = part is None
        head = header(row) if outside else None
        prose = outside and (row[:1] != "@" or row[:2] == "@@")
        within = not outside and row != "@end"
        if re.fullmatch(r"[ -~]{0,200}", row) is None:
            return number, 1, None
        if outside and not prose and head is None:
            return number, 2, None
        if within and not is_line(row):
            return number, 3, None
        if (within and unpaired(row, conditions)) or (row == "@end" and conditions):
            return number, 4, None
        if within and any(piece["parameter"] not in [None] + part for piece in pieces(row) or []):
            return number, 5, None
        if (outside and len(blocks) == 200) or (head and parts == 60) or (within and lines == 400):
            return number, 6, None
        if head and head[0] == 1 and told.setdefault(head[1], head[2]) != head[2]:
            return number, 7, None
        if outside:
            blocks.append([])
        blocks[-1].append(row)
        parts += head is not None
        lines += within
        part = head[2] if head else None if row == "@end" else part
    if last or part is not None:
        return len(rows) + 1, 1 if last else 8, None
    return 0, 0, blocks


def written(blocks):
    return "".join(row + "\n" for block in blocks for row in block)


def head_of(block):
    return header(block[0]) if len(block) > 1 else None


def heads(blocks):
    return [head_of(block) for block in blocks if head_of(block)]


def code_pieces(block):
    return [piece for row in block[1:-1] for piece in pieces(row) or []]


def settings(blocks):
    """The setting of each if, in the order of the text."""
    rows = [row for block in blocks for row in block[1:-1]]
    return [row[len("@if "):] for row in rows if row.startswith("@if ")]


def told_texts(texts):
    """Texts as they are answered."""
    numbers = [len(texts)]
    for text in texts:
        numbers += [len(text), *text.encode()]
    return numbers


def told_piece(piece):
    if piece["literal"] is not None:
        return [0] + told_texts([piece["literal"].replace("@@", "@")])[1:]
    if piece["parameter"] is not None:
        return [2] + told_texts([piece["parameter"]])[1:]
    arguments = [] if piece["arguments"] is None else piece["arguments"].split(", ")
    return [1] + told_texts([piece["name"]])[1:] + told_texts(arguments)


def uses(blocks):
    return [piece["name"] for block in blocks for piece in code_pieces(block) if piece["name"]]


def swapped(row, group, old, new):
    """The code line with new for old in the pieces that have this group."""
    found = pieces(row)
    if found is None:
        return row
    texts = []
    for piece in found:
        text = piece[0]
        if piece[group] == old:
            text = text[:2] + new + text[2 + len(old):]
        texts.append(text)
    return "".join(texts)


class Model:
    def __init__(self):
        self.blocks = []

    def held(self, blocks, answer):
        text = written(blocks)
        if len(text) > 20000 or parse(text)[1]:
            return [-6]
        self.blocks = blocks
        return answer

    def read(self, text):
        if len(text) > 20000:
            return [-6]
        line, reason, blocks = parse(text)
        if reason:
            return [line, reason]
        self.blocks = blocks
        return [0, len(blocks)]

    def show(self):
        text = written(self.blocks)
        return [len(text)] + list(text.encode())

    def block(self, i):
        if i not in range(len(self.blocks)):
            return [-2]
        text = written([self.blocks[i]])
        head = head_of(self.blocks[i])
        return [head[0] if head else 0, len(text)] + list(text.encode())

    def put(self, i, text):
        if i not in range(len(self.blocks) + 1):
            return [-2]
        line, reason, blocks = parse(text)
        if reason:
            return [-1]
        return self.held(self.blocks[:i] + blocks + self.blocks[i:], [len(self.blocks) + len(blocks)])

    def cut(self, i, n):
        if i not in range(len(self.blocks) + 1) or n not in range(len(self.blocks) - i + 1):
            return [-2]
        return self.held(self.blocks[:i] + self.blocks[i + n:], [len(self.blocks) - n])

    def move(self, i, n, j):
        count = len(self.blocks)
        if i not in range(count + 1) or n not in range(count - i + 1) or j not in range(count + 1):
            return [-2]
        if j in range(i + 1, i + n):
            return [-4]
        taken = range(i, i + n)
        order = [k for k in range(j) if k not in taken] + list(taken) + [k for k in range(j, count) if k not in taken]
        blocks = [self.blocks[k] for k in order]
        return self.held(blocks, [int(blocks != self.blocks)])

    def lines(self, i, j, n, text):
        if i not in range(len(self.blocks)):
            return [-2]
        block = self.blocks[i]
        if head_of(block) is None:
            return [-3]
        count = len(block) - 2
        if j not in range(count + 1) or n not in range(count - j + 1):
            return [-2]
        if re.fullmatch(r"([ -~]{0,200}\n)*", text) is None or not all(is_line(row) for row in text.split("\n")[:-1]):
            return [-1]
        changed = block[:j + 1] + text.split("\n")[:-1] + block[j + 1 + n:]
        return self.held(self.blocks[:i] + [changed] + self.blocks[i + 1:], [len(changed) - 2])

    def rename(self, old, new):
        told = [head[1] for head in heads(self.blocks) if head[0] == 1]
        used = uses(self.blocks)
        if old not in told + used:
            return [-3]
        if not is_name(new):
            return [-1]
        if new != old and new in told + used:
            return [-5]
        blocks = []
        for block in self.blocks:
            head = head_of(block)
            if head:
                block = [block[0]] + [swapped(row, "name", old, new) for row in block[1:-1]] + ["@end"]
            if head and head[:2] == (1, old):
                block[0] = "@chunk " + new + block[0][len("@chunk ") + len(old):]
            blocks.append(block)
        return self.held(blocks, [told.count(old), used.count(old)])

    def refile(self, old, new):
        paths = [head[1] for head in heads(self.blocks) if head[0] == 2]
        if old not in paths:
            return [-3]
        if not is_path(new):
            return [-1]
        if new != old and new in paths:
            return [-5]
        blocks = []
        for block in self.blocks:
            mine = (head_of(block) or ())[:2] == (2, old)
            blocks.append(["@file " + new] + block[1:] if mine else block)
        return self.held(blocks, [paths.count(old)])

    def reparam(self, name, old, new):
        mine = [head[2] for head in heads(self.blocks) if head[:2] == (1, name)]
        if not mine:
            return [-3]
        if old not in mine[0]:
            return [-4]
        if not is_short(new):
            return [-1]
        if new != old and new in mine[0]:
            return [-5]
        told = ", ".join(new if parameter == old else parameter for parameter in mine[0])
        blocks = []
        for block in self.blocks:
            if (head_of(block) or ())[:2] == (1, name):
                rows = [swapped(row, "parameter", old, new) for row in block[1:-1]]
                block = [f"@chunk {name}({told})"] + rows + ["@end"]
            blocks.append(block)
        return self.held(blocks, [len(mine)])

    def resettle(self, old, new):
        known = settings(self.blocks)
        if old not in known:
            return [-3]
        if not is_short(new):
            return [-1]
        if new != old and new in known:
            return [-5]
        blocks = []
        for block in self.blocks:
            if head_of(block):
                block = ["@if " + new if row == "@if " + old else row for row in block]
            blocks.append(block)
        return self.held(blocks, [known.count(old)])

    def names(self):
        found = {}
        for block in self.blocks:
            head = head_of(block)
            mine = [head[1]] if head and head[0] == 1 else []
            found.update(dict.fromkeys(mine + uses([block])))
        return told_texts(list(found))

    def files(self):
        return told_texts(list(dict.fromkeys(head[1] for head in heads(self.blocks) if head[0] == 2)))

    def settings(self):
        return told_texts(list(dict.fromkeys(settings(self.blocks))))

    def parts(self, of_file, name):
        if of_file not in (0, 1):
            return [-2]
        wanted = (of_file + 1, name)
        found = [i for i, block in enumerate(self.blocks) if (head_of(block) or ())[:2] == wanted]
        return [len(found)] + found

    def uses(self, name):
        found = []
        for i, block in enumerate(self.blocks):
            for j, row in enumerate(block[1:-1]):
                found += [(i, j, k) for k, piece in enumerate(pieces(row) or []) if piece["name"] == name]
        return [len(found)] + [number for place in found for number in place]

    def params(self, name):
        mine = [head[2] for head in heads(self.blocks) if head[:2] == (1, name)]
        return told_texts(mine[0]) if mine else [-3]

    def pieces(self, i, j):
        if i not in range(len(self.blocks)):
            return [-2]
        if head_of(self.blocks[i]) is None:
            return [-3]
        rows = self.blocks[i][1:-1]
        if j not in range(len(rows)):
            return [-2]
        if rows[j].startswith("@if "):
            return [1] + told_texts([rows[j][len("@if "):]])[1:]
        if rows[j] in ("@else", "@fi"):
            return [2 if rows[j] == "@else" else 3]
        found = pieces(rows[j])
        return [0, len(found)] + [number for piece in found for number in told_piece(piece)]

    def size(self):
        count = len(heads(self.blocks))
        rows = sum(len(block) for block in self.blocks)
        return [len(self.blocks), count, rows - 2 * count - (len(self.blocks) - count), len(written(self.blocks))]
