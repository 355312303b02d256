"""Books: named tables, the papers filed for them, and the lines that were run (points 51 and 52)."""

from bitshades.checks import check_name
from bitshades.errors import BookFull, NothingToUndo, UnknownName, WrongKind
from bitshades.running import run_pieces
from bitshades.scripts import parse_line

MOST_ROWS = 100


class Book:
    """Named tables, the papers filed for them, and a row for each line that was run."""

    def __init__(self):
        self._rows = []
        # What was held ahead of the first row and behind each one, as running.py tells it.
        # None of these dicts is ever changed, so twins may share them.
        self._held = [{}]

    def run(self, line):
        """Run the line and add its row; the answer."""
        pieces = parse_line(line)
        if len(self._rows) >= MOST_ROWS:
            raise BookFull()
        answer, held = run_pieces(self._held[-1], pieces)
        self._rows.append((line, answer))
        self._held.append(held)
        return answer

    def undo(self):
        """Undo the last row; the tuple of its line and its answer."""
        if len(self._rows) == 0:
            raise NothingToUndo()
        self._held.pop()
        return self._rows.pop()

    def rows(self):
        """The list of the rows, each a tuple of a line and its answer."""
        return list(self._rows)

    def names(self):
        """The list of the names of the tables, ascending."""
        return sorted(list(self._held[-1]))

    def table_of(self, name):
        """The Table of the name."""
        return held_under(self._held[-1], name)[0]

    def papers_of(self, name):
        """The list of the papers filed for the name, texts, in the order of filing."""
        return list(held_under(self._held[-1], name)[1])

    def twin(self):
        """A new Book with the same rows, tables and papers."""
        other = Book()
        other._rows = list(self._rows)
        other._held = list(self._held)
        return other

    def __len__(self):
        return len(self._rows)

    def __iter__(self):
        return iter(self._rows)

    def __contains__(self, x):
        return isinstance(x, str) and x in self._held[-1]

    def __eq__(self, other):
        return isinstance(other, Book) and self._rows == other._rows


def held_under(held, name):
    """The tuple of the table of the name and the tuple of its papers."""
    check_name(name, "name")
    if name not in held:
        raise UnknownName(name)
    return held[name]


def check_book(book, argument):
    """Refuse what is no Book."""
    if not isinstance(book, Book):
        raise WrongKind(argument)
