"""The lines of scripts, and where a text fails to be one (point 50)."""

from bitshades.checks import MOST_CHARACTERS, check_row, check_text, is_name
from bitshades.errors import BadText, OutOfRange, WrongKind, WrongSize
from bitshades.notation import parse_ratio, parse_set, parse_word
from bitshades.tables import Table
from bitshades.words import MOST_WIDTH

MOST_PIECES = 10
MOST_LINE_FEEDS = 99

# What may stand behind each verb; "name" must have a table when the line is run, and "new" must have none.
SLOTS = {
    "table": ("new", "table"),
    "drop": ("name",),
    "sum": ("name", "name", "new"),
    "mend": ("name", "new"),
    "turn": ("name", "word"),
    "shades": ("name",),
    "near": ("name", "ratio"),
    "test": ("name",),
    "learn": ("name", "few"),
    "votes": ("name", "name", "name"),
    "paper": ("name", "form"),
    "each": ("verb", "name", "name", "name", "name", "name", "name", "name", "name"),
}
PAPER_SLOTS = {"break": ("word", "word"), "sum": ("set",)}
CHOICES = {
    "few": ("0", "1", "2", "3", "4", "5", "6"),
    "form": ("break", "sum"),
    "verb": ("shades", "test"),
}


def is_written(slot, piece):
    """True if the piece is a written form of what the slot tells."""
    try:
        if slot == "table":
            Table.of_text(piece)
        elif slot == "word":
            parse_word(piece)
        elif slot == "set":
            parse_set(MOST_WIDTH, piece)
        else:
            parse_ratio(piece)
    except BadText:
        return False
    return True


def fits(slot, piece):
    """True if the piece can stand in the slot."""
    if slot in ("name", "new"):
        return is_name(piece)
    if slot in CHOICES:
        return piece in CHOICES[slot]
    return is_written(slot, piece)


def slots_behind(pieces):
    """What may stand behind the first one of these pieces, a verb."""
    slots = SLOTS[pieces[0]]
    if pieces[0] == "paper" and len(pieces) > 2:
        return slots + PAPER_SLOTS.get(pieces[2], ())
    return slots


def stands(pieces, index):
    """True if the piece at the index can stand there, where all pieces ahead of it can."""
    if index == 0:
        return pieces[0] in SLOTS
    slots = slots_behind(pieces)
    return index <= len(slots) and fits(slots[index - 1], pieces[index])


def least_pieces(pieces):
    """How many pieces a line with this beginning has at least."""
    if pieces[0] == "each":
        return 3
    return 1 + len(slots_behind(pieces))


def fault_in(line):
    """The position at which a text of at most 200 characters fails to be a line, or -1 if it is one."""
    pieces = line.split(" ")
    position = 0
    for index, piece in enumerate(pieces):
        if not stands(pieces, index):
            return position
        position += len(piece) + 1
    if len(pieces) < least_pieces(pieces):
        return len(line)
    return -1


def parse_line(line):
    """The tuple of the pieces of the line."""
    check_text(line, "line")
    fault = fault_in(line)
    if fault >= 0:
        raise BadText(fault)
    return tuple(line.split(" "))


def format_line(pieces):
    """The line of these pieces."""
    check_row(pieces, 1, MOST_PIECES, "pieces")
    for piece in pieces:
        if not isinstance(piece, str):
            raise WrongKind("pieces")
    line = " ".join(pieces)
    # A piece with a space in it would come back as several.
    if len(line) > MOST_CHARACTERS or fault_in(line) >= 0 or line.split(" ") != list(pieces):
        raise OutOfRange("pieces")
    return line


def parse_script(source):
    """The list of the tuples of pieces of all lines of the text."""
    if not isinstance(source, str):
        raise WrongKind("source")
    lines = source.split("\n")
    if len(lines) > MOST_LINE_FEEDS + 1 or max([len(line) for line in lines]) > MOST_CHARACTERS:
        raise WrongSize("source")
    if source == "":
        return []
    start = 0
    for line in lines:
        fault = fault_in(line)
        if fault >= 0:
            raise BadText(start + fault)
        start += len(line) + 1
    return [tuple(line.split(" ")) for line in lines]
