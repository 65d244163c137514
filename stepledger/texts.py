"""Programs of the small language, read from a text and shown as one."""

from stepledger.errors import BadRow
from stepledger.rolls import is_number, shown_row
from stepledger.sums import depth, needs_sums, sums_in

LETTERS = "abcdefghijklmnopqrstuvwxyz"
MOST_LETTERS = 8
MOST_TAKEN = 6
MOST_WORDS = 60
MOST_DEPTH = 6
MOST_BLOCKS = 12
WORDS = ("take", "set", "put", "tell", "when", "else", "while", "end", "add", "sub", "more", "cell")

# How many sums stand in a row that begins with each of these words.
SUMS = {"set": 1, "put": 2, "tell": 1, "when": 1, "else": 0, "while": 1, "end": 0}

# How many lists of deeds stand within each kind of block.
LISTS = {"when": 2, "while": 1}


class Block:
    def __init__(self, head):
        self.head = head
        self.lists = [[]]


def read(text):
    lines = text.split("\n")
    rows = [(number, line.split(" ")) for number, line in enumerate(lines, start=1) if line != ""]
    taken = ()
    if len(rows) > 0 and rows[0][1][0] == "take":
        taken = read_taken(rows[0])
        rows = rows[1:]
    return (taken, read_deeds(rows, len(lines) + 1))


def read_taken(row):
    names = row[1][1:]
    if len(names) < 1 or len(names) > MOST_TAKEN or len(set(names)) != len(names):
        raise BadRow(row[0])
    if not all([is_name(name) for name in names]):
        raise BadRow(row[0])
    return tuple(names)


def is_name(word):
    if len(word) < 1 or len(word) > MOST_LETTERS or word in WORDS:
        return False
    return all([letter in LETTERS for letter in word])


def read_deeds(rows, behind):
    # The first block is the program itself, which no row begins or ends.
    blocks = [Block(("program",))]
    for number, words in rows:
        deed = read_deed(words)
        if deed is None or not can_stand(blocks, deed[0]):
            raise BadRow(number)
        place_deed(blocks, deed)
    if len(blocks) > 1:
        raise BadRow(behind)
    return tuple(blocks[0].lists[0])


def read_deed(words):
    if words[0] not in SUMS or len(words) > MOST_WORDS:
        return None
    # Ahead of its sum a set has the name that it gives a value.
    begin = 2 if words[0] == "set" else 1
    if not all([is_name(word) for word in words[1:begin]]):
        return None
    sums = read_sums(words[begin:])
    if sums is None or len(sums) != SUMS[words[0]]:
        return None
    return tuple(words[:begin] + sums)


def read_sums(words):
    if not all([needs_sums(word) or is_name(word) or is_number(word) for word in words]):
        return None
    sums = sums_in([int(word) if is_number(word) else word for word in words])
    if sums is None:
        return None
    # The second sum of a put is worked while the first one's value is kept.
    depths = [depth(one) + deeper for deeper, one in enumerate(sums)]
    return sums if max(depths, default=0) <= MOST_DEPTH else None


def can_stand(blocks, word):
    inner = blocks[-1]
    full = LISTS.get(inner.head[0], 0) == len(inner.lists)
    if word in LISTS:
        return len(blocks) <= MOST_BLOCKS
    if word == "else":
        return inner.head[0] == "when" and not full
    if word == "end":
        return full
    return True


def place_deed(blocks, deed):
    inner = blocks[-1]
    if deed[0] in LISTS:
        blocks.append(Block(deed))
    elif deed[0] == "else":
        inner.lists.append([])
    elif deed[0] == "end":
        blocks.pop()
        whole = inner.head + tuple([tuple(deeds) for deeds in inner.lists])
        blocks[-1].lists[-1].append(whole)
    else:
        inner.lists[-1].append(deed)


def shown(program):
    return "\n".join([shown_row(row) for row in text_rows(program)])


def text_rows(program):
    rows = [("take",) + program[0]] if len(program[0]) > 0 else []
    return rows + text_rows_of_deeds(program[1])


def text_rows_of_deeds(deeds):
    rows = []
    for deed in deeds:
        rows.extend(text_rows_of_deed(deed))
    return rows


def text_rows_of_deed(deed):
    if deed[0] == "when":
        first = text_rows_of_deeds(deed[2])
        second = text_rows_of_deeds(deed[3])
        return [("when",) + deed[1]] + first + [("else",)] + second + [("end",)]
    if deed[0] == "while":
        return [("while",) + deed[1]] + text_rows_of_deeds(deed[2]) + [("end",)]
    if deed[0] == "put":
        return [("put",) + deed[1] + deed[2]]
    return [deed[:-1] + deed[-1]]


def names_of(program):
    names = list(program[0])
    for row in text_rows(program):
        for word in row:
            if not isinstance(word, int) and word not in WORDS and word not in names:
                names.append(word)
    return tuple(names)
