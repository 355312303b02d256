"""Books that are made from lines again, and compared (points 51 and 52)."""

from bitshades.book import MOST_ROWS, Book, check_book
from bitshades.checks import check_row
from bitshades.errors import ShadeError, WrongKind
from bitshades.scripts import parse_script


def check_texts(texts, least, greatest, argument):
    """Refuse what is no row of least to greatest texts of any length."""
    check_row(texts, least, greatest, argument)
    for text in texts:
        if not isinstance(text, str):
            raise WrongKind(argument)


def book_of_lines(lines):
    """A new Book in which the lines, which are texts, were run in order."""
    book = Book()
    for line in lines:
        book.run(line)
    return book


def replay(lines):
    """A new Book in which the lines of the row were run in order."""
    check_texts(lines, 0, MOST_ROWS, "lines")
    return book_of_lines(lines)


def audit(rows):
    """The index of the first row whose line cannot be run or has another answer, or None."""
    check_row(rows, 0, MOST_ROWS, "rows")
    for row in rows:
        check_texts(row, 2, 2, "rows")
    book = Book()
    for index, (line, answer) in enumerate(rows):
        try:
            told = book.run(line)
        except ShadeError:
            return index
        if told != answer:
            return index
    return None


def first_difference(first, second):
    """The index of the first row in which the books differ, or None if they are equal."""
    check_book(first, "first")
    check_book(second, "second")
    for index, (mine, given) in enumerate(zip(first, second)):
        if mine != given:
            return index
    if len(first) != len(second):
        return min(len(first), len(second))
    return None


def book_text(book):
    """The lines of the rows of the book, with a line feed between two."""
    check_book(book, "book")
    return "\n".join([line for line, _ in book])


def book_of_text(source):
    """A new Book in which the lines of the text were run in order."""
    return book_of_lines([" ".join(pieces) for pieces in parse_script(source)])
