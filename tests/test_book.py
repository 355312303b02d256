"""Points 51 and 52 and the interface of book.py."""

import unittest
from fractions import Fraction

from bitshades.asking import Asked
from bitshades.book import Book
from bitshades.changes import Led
from bitshades.errors import (
    BadText,
    BookFull,
    NameTaken,
    NothingToUndo,
    OutOfRange,
    ShadeError,
    UnknownName,
    WrongKind,
    WrongPaper,
    WrongSize,
)
from bitshades.learning import learn_few
from bitshades.making import constant_table, drawn_table, most_table, place_table, sum_table
from bitshades.mending import mended
from bitshades.parting import widened
from bitshades.tables import Table
from bitshades.votes import ring_paper, ring_share_by_shades
from helping import NO_NAMES, NO_TEXTS, Promises, changed, kinds, name_faults, text_faults
from plainly import hand_shades, places_in, some_tables, sum_breaks, told

AND = Table(2, [0, 0, 0, 1])


def written(value, width=None):
    """The written form of a table, a fraction, or of a word of the width."""
    if isinstance(value, Table):
        return f"{value.width}:" + "".join(str(bit) for bit in value.bits)
    if width is None:
        return "%d/%d" % told(value)
    return "".join(str(value // 2**place % 2) for place in range(width)) or "-"


def written_set(chosen):
    return ",".join(str(place) for place in places_in(chosen)) or "-"


def hand_test(table):
    count = sum_breaks(table)
    share = written(Fraction(count, 4**table.width))
    words = range(len(table))
    pairs = [(x, y) for x in words for y in words if (table.bits[x] + table.bits[y]) % 2 != table.bits[x ^ y]]
    if pairs:
        return f"{share} break {written(pairs[0][0], table.width)} {written(pairs[0][1], table.width)}"
    return f"{share} sum {written_set([c for c, shade in enumerate(hand_shades(table)) if shade == 1][0])}"


def book_with(**tables):
    book = Book()
    for name, table in tables.items():
        book.run(f"table {name} {written(table)}")
    return book


def state(book):
    return kinds(book)


class Tested(Promises):
    def raises(self, error, book, line, **attribute):
        """Running the line raises exactly this error and changes nothing."""
        before = state(book)
        with self.assertRaises(ShadeError, msg=line) as caught:
            book.run(line)
        self.assertIs(type(caught.exception), error, line)
        self.assertEqual(kinds(list(vars(caught.exception).items())), kinds(list(attribute.items())), line)
        self.assertEqual(state(book), before)

    def answers(self, book, line, answer):
        """The line gives this answer and adds its row."""
        rows = book.rows()
        self.same(book.run(line), answer, line)
        self.same(book.rows(), rows + [(line, answer)])


class Answers(Tested):
    def test_tables(self):
        for table in some_tables():
            book = Book()
            self.answers(book, f"table f {written(table)}", written(table))
            self.same(book.table_of("f"), table)
            self.same(book.papers_of("f"), [])
            self.answers(book, "mend f g", written(mended(table)))
            self.same(book.table_of("g"), mended(table))
            self.answers(book, "sum f g into", written(table + mended(table)))
            self.answers(book, "sum f f zero", written(constant_table(table.width, 0)))
            self.same(book.names(), ["f", "g", "into", "zero"])
            last = len(table) - 1
            for word in (last, 0, last // 3):
                bits = list(book.table_of("f").bits)
                bits[word] = 1 - bits[word]
                turned = Table(table.width, bits)
                self.answers(book, f"turn f {written(word, table.width)}", written(turned))
                self.same(book.table_of("f"), turned)
            self.same(book.table_of("g"), mended(table))

    def test_shades_and_tests(self):
        for table in some_tables():
            book = book_with(f=table, g=~table)
            shades = " ".join(written(shade) for shade in hand_shades(table))
            turned = " ".join(written(-shade) for shade in hand_shades(table))
            self.answers(book, "shades f", shades)
            self.answers(book, "test f", hand_test(table))
            self.answers(book, "each shades f", shades)
            self.answers(book, "each shades f g f", f"{shades}; {turned}; {shades}")
            self.answers(book, "each test g f", f"{hand_test(~table)}; {hand_test(table)}")
            self.same(len(book), 7)

    def test_near(self):
        for table in some_tables():
            book = book_with(f=table)
            for text in ("1/4", "2/8", "1/1", "2/2", "1/64", "1/65", "1/999999999", "999999999/999999999", "9/64", "25/64", "26/64"):
                top, bottom = text.split("/")
                least = Fraction(int(top), int(bottom))
                sets = [chosen for chosen, shade in enumerate(hand_shades(table)) if shade**2 >= least]
                self.answers(book, f"near f {text}", " ".join(written_set(chosen) for chosen in sets) or "none")

    def test_learn(self):
        for table in some_tables(0, 4) + [widened(AND, 6, 36), sum_table(6, 9), most_table(5)]:
            book = book_with(f=table)
            for few in range(7):
                asked = Asked(table)
                try:
                    chosen, part, _ = learn_few(asked, few)
                    answer = f"{written_set(chosen)} {written(part)} asks {len(asked.log())}"
                except ShadeError:
                    answer = f"more than {few}"
                self.answers(book, f"learn f {few}", answer)

    def test_votes(self):
        for width in range(7):
            tables = [drawn_table(width, 3), most_table(width), constant_table(width, 0), constant_table(width, 1)]
            tables += [place_table(width, width - 1, bit) for bit in (0, 1)] if width else []
            book = book_with(**{name: table for name, table in zip("abcdef", tables)})
            names = "abcdef"[: len(tables)]
            for line in [(x, y, z) for x in names for y in names for z in names][:: 1 if width == 0 else 3][:90]:
                three = [book.table_of(name) for name in line]
                paper = ring_paper(*three)
                share = written(Fraction(*ring_share_by_shades(*three)))
                right = "ring" if paper[0] == "ring" else "%s %d %d" % paper
                self.answers(book, "votes " + " ".join(line), f"{share} {right}")

    def test_told_answers(self):
        book = Book()
        for line, answer in (
            ("table f 2:0001", "2:0001"), ("test f", "3/8 break 10 01"), ("near f 1/4", "- 0 1 0,1"),
            ("near f 26/100", "none"), ("shades f", "1/2 1/2 1/2 -1/2"), ("learn f 1", "- 0:0 asks 3"),
            ("learn f 2", "0,1 2:0001 asks 4"), ("table o 0:1", "0:1"), ("shades o", "-1/1"), ("test o", "1/1 break - -"),
            ("learn o 6", "- 0:1 asks 1"), ("near o 1/1", "-"), ("votes o o o", "1/1 ring"), ("turn o -", "0:0"),
            ("test o", "0/1 sum -"), ("paper o sum -", "filed"), ("table p 3:01010101", "3:01010101"),
            ("test p", "0/1 sum 0"), ("votes p p p", "0/1 own 0 0"), ("table q 3:10101010", "3:10101010"),
            ("votes q q q", "0/1 own 0 1"), ("paper p sum 0", "filed"), ("paper f break 10 01", "filed"),
            ("paper f break 01 10", "filed"), ("sum p q r", "3:11111111"), ("sum p p s", "3:00000000"),
            ("votes s p r", "0/1 unlike 0 2"), ("votes r s r", "0/1 unlike 0 1"), ("learn p 0", "- 0:0 asks 1"),
            ("table t 3:01101001", "3:01101001"), ("learn t 1", "more than 1"), ("each test t p", "0/1 sum 0,1,2; 0/1 sum 0"),
            ("drop f", "dropped"), ("table f 2:0000", "2:0000"), ("near f 2/2", "-"), ("mend t m", "3:01101001"),
        ):
            self.answers(book, line, answer)
        self.same(book.papers_of("f"), [])
        self.same(book.papers_of("p"), ["sum 0"])
        self.same(book.names(), ["f", "m", "o", "p", "q", "r", "s", "t"])

    def test_papers(self):
        book = book_with(f=AND, g=sum_table(3, 5))
        self.answers(book, "paper f break 10 01", "filed")
        self.answers(book, "paper f break 10 01", "filed")
        self.answers(book, "paper g sum 0,2", "filed")
        self.answers(book, "paper f break 10 11", "filed")
        self.same(book.papers_of("f"), ["break 10 01", "break 10 01", "break 10 11"])
        self.same(book.papers_of("g"), ["sum 0,2"])
        book.run("turn g 000")
        self.same(book.papers_of("g"), [])
        book.run("turn g 000")
        self.same(book.papers_of("g"), [])
        self.same(book.papers_of("f"), ["break 10 01", "break 10 01", "break 10 11"])
        book.run("drop f")
        book.run("table f 2:0001")
        self.same(book.papers_of("f"), [])


class Errors(Tested):
    def test_line(self):
        for book in (Book(), book_with(f=AND)):
            for value, error in text_faults():
                self.raises(error, book, value, argument="line")
                self.refused(error, "argument", "line", book.run, line=value)
            self.raises(BadText, book, "test  f", position=5)
            self.raises(BadText, book, "", position=0)
            self.raises(BadText, book, "sum g g", position=7)
            self.raises(BadText, book, "near f 01/2", position=7)
            self.raises(BadText, book, "paper f sum 6", position=12)

    def test_unknown_names(self):
        book = book_with(f=AND, h=AND)
        for line in ("drop g", "sum g f k", "sum f g k", "sum g i k", "mend g k", "turn g 0", "shades g", "near g 1/2", "test g"):
            self.raises(UnknownName, book, line, missing="g")
        for line in ("learn g 2", "votes g i f", "votes f g i", "votes f f g", "paper g sum 0", "paper g break 0 0", "each test g i"):
            self.raises(UnknownName, book, line, missing="g")
        for line in ("each shades f f h g", "sum f g g", "sum g g g", "sum g f f", "mend g g", "mend g f", "sum f g f"):
            self.raises(UnknownName, book, line, missing="g")
        self.raises(UnknownName, Book(), "drop shades", missing="shades")

    def test_names_taken(self):
        book = book_with(f=AND, g=drawn_table(3))
        for line in ("table f 2:0001", "table f 0:0", "sum f f f", "sum g g f", "sum f g f", "mend f f", "mend g f"):
            self.raises(NameTaken, book, line, taken="f")
        self.raises(NameTaken, book, "sum f g g", taken="g")
        book.run("drop f")
        self.answers(book, "table f 0:0", "0:0")

    def test_sizes(self):
        book = book_with(f=AND, g=drawn_table(3), o=Table(0, [0]))
        for line in ("sum f g h", "sum g f h", "sum o f h", "votes f f g", "votes g f f", "votes f g f", "votes o f g"):
            self.raises(WrongSize, book, line, argument="line")
        for line in ("turn f 0", "turn f -", "turn f 000", "turn o 0", "turn g 01", "paper f break 0 01", "paper f break 01 010"):
            self.raises(WrongSize, book, line, argument="line")
        for line in ("paper f break - -", "paper o break 0 -", "paper f sum 2", "paper f sum 0,5", "paper o sum 0", "paper g sum 3"):
            self.raises(WrongSize, book, line, argument="line")

    def test_ratios(self):
        book = book_with(f=AND)
        for text in ("0/1", "0/7", "-1/2", "3/2", "999999999/999999998", "5/4"):
            self.raises(OutOfRange, book, f"near f {text}", argument="line")
        self.answers(book, "near f 999999999/999999999", "none")

    def test_wrong_papers(self):
        book = book_with(f=AND, g=sum_table(3, 5), o=Table(0, [1]))
        for line in ("paper f sum -", "paper f sum 0", "paper f sum 0,1", "paper f break 00 00", "paper f break 11 00"):
            self.raises(WrongPaper, book, line, paper_of="f")
        for line in ("paper g sum 0", "paper g sum 0,1,2", "paper g break 000 000", "paper g break 101 010"):
            self.raises(WrongPaper, book, line, paper_of="g")
        self.raises(WrongPaper, book, "paper o sum -", paper_of="o")
        self.answers(book, "paper o break - -", "filed")

    def test_two_at_once(self):
        full = book_with(f=AND)
        for _ in range(99):
            full.run("test f")
        self.same(len(full), 100)
        self.raises(WrongKind, full, None, argument="line")
        self.raises(WrongSize, full, "x" * 201, argument="line")
        self.raises(BadText, full, "test F", position=5)
        for line in ("test f", "test g", "table f 0:0", "turn f 0", "near f 0/1", "paper f sum -", "drop f"):
            self.raises(BookFull, full, line)
        book = book_with(f=AND, g=drawn_table(3))
        self.raises(BadText, book, "sum x y Z", position=8)
        self.raises(UnknownName, book, "sum f x f", missing="x")
        self.raises(UnknownName, book, "sum x y f", missing="x")
        self.raises(NameTaken, book, "sum f g f", taken="f")
        self.raises(UnknownName, book, "votes f g x", missing="x")
        self.raises(UnknownName, book, "turn x 0", missing="x")
        self.raises(UnknownName, book, "near x 0/1", missing="x")
        self.raises(UnknownName, book, "paper x sum 5", missing="x")
        self.raises(WrongSize, book, "paper f sum 5", argument="line")
        self.raises(WrongSize, book, "paper f break 11 0", argument="line")
        self.raises(WrongSize, book, "paper f break 0 11", argument="line")

    def test_a_hundred_rows(self):
        book = book_with(f=AND)
        while len(book) < 100:
            book.run("each test f f")
        self.raises(BookFull, book, "shades f")
        self.same(book.undo(), ("each test f f", "3/8 break 10 01; 3/8 break 10 01"))
        self.answers(book, "shades f", "1/2 1/2 1/2 -1/2")
        self.raises(BookFull, book, "shades f")
        self.same(len(book.twin()), 100)
        self.raises(BookFull, book.twin(), "shades f")

    def test_attributes_of_full_books(self):
        for error in (BookFull, NothingToUndo):
            self.assertEqual(vars(error()), {})


class Undoing(Tested):
    LINES = (
        "table f 2:0001", "table g 2:0110", "paper f break 10 01", "paper f break 01 10", "paper g sum 0,1", "sum f g h",
        "mend f m", "shades f", "near f 1/4", "test g", "learn f 2", "votes f g h", "each test f g", "paper f break 10 01",
        "turn f 11", "paper f sum -", "turn f 11", "drop g", "table g 0:1", "paper g break - -", "drop f", "drop g", "drop h",
    )

    def test_each_line(self):
        book = Book()
        states = [state(book)]
        for line in self.LINES:
            book.run(line)
            states.append(state(book))
        for line in reversed(self.LINES):
            self.assertEqual(state(book), states.pop())
            row = book.rows()[-1]
            self.same(book.undo(), row)
            self.assertEqual(row[0], line)
        self.assertEqual(state(book), states[0])
        self.assertEqual(state(book), state(Book()))
        self.nothing_to_undo(book)

    def nothing_to_undo(self, book):
        with self.assertRaises(NothingToUndo) as caught:
            book.undo()
        self.assertIs(type(caught.exception), NothingToUndo)
        self.assertEqual(vars(caught.exception), {})

    def test_papers_come_back(self):
        book = book_with(f=AND)
        for line in ("paper f break 10 01", "paper f break 01 11", "paper f break 10 01"):
            book.run(line)
        papers = ["break 10 01", "break 01 11", "break 10 01"]
        for line in ("drop f", "turn f 11", "turn f 00"):
            self.same(book.papers_of("f"), papers)
            book.run(line)
            self.same("f" in book and book.papers_of("f"), [] if line != "drop f" else False)
            self.same(book.undo()[0], line)
            self.same(book.table_of("f"), AND)
        self.same(book.papers_of("f"), papers)
        book.undo()
        self.same(book.papers_of("f"), papers[:2])

    def test_nothing_else_brings_papers_back(self):
        book = book_with(f=AND)
        book.run("paper f break 10 01")
        book.run("turn f 00")
        book.run("turn f 00")
        self.same(book.papers_of("f"), [])
        book.undo()
        self.same(book.papers_of("f"), [])
        book.undo()
        self.same(book.papers_of("f"), ["break 10 01"])

    def test_an_undone_row_leaves_no_trace(self):
        book = book_with(f=AND)
        other = book_with(f=AND)
        book.run("table g 0:0")
        book.run("drop f")
        self.same(book == other, False)
        book.undo()
        book.undo()
        self.same(book == other, True)
        self.assertEqual(state(book), state(other))
        self.answers(book, "table g 1:01", "1:01")

    def test_undo_between(self):
        book = book_with(f=AND)
        book.run("turn f 00")
        book.undo()
        book.run("turn f 10")
        self.same(book.table_of("f"), Table(2, [0, 1, 0, 1]))
        book.undo()
        book.undo()
        self.same("f" in book, False)
        self.nothing_to_undo(book)

    def test_twins(self):
        book = Book()
        for line in self.LINES[:15]:
            book.run(line)
        before = state(book)
        twin = book.twin()
        self.assertIs(type(twin), Book)
        self.assertEqual(state(twin), before)
        self.same(twin == book, True)
        twin.run("drop f")
        twin.run("paper g sum 0,1")
        self.assertEqual(state(book), before)
        self.same(twin == book, False)
        for _ in range(2):
            twin.undo()
        self.assertEqual(state(twin), before)
        book.run("drop g")
        book.undo()
        book.undo()
        self.assertEqual(state(twin), before)
        for line in reversed(self.LINES[:15]):
            self.same(twin.undo()[0], line)
        self.nothing_to_undo(twin)
        self.same(len(book), 14)
        self.same(book.names(), ["f", "g", "h", "m"])


class Looking(Tested):
    def test_names_and_tables(self):
        book = Book()
        self.same(book.names(), [])
        self.same(book.rows(), [])
        for name in ("zz", "b", "abcdefgh", "a", "ab"):
            book.run(f"table {name} 1:01")
        self.same(book.names(), ["a", "ab", "abcdefgh", "b", "zz"])
        for name in book.names():
            self.same(book.table_of(name), Table(1, [0, 1]))
            self.same(book.table_of(name=name), Table(1, [0, 1]))
            self.same(book.papers_of(name=name), [])

    def test_faults_of_a_name(self):
        book = book_with(f=AND)
        for value, error in name_faults():
            for method in (book.table_of, book.papers_of):
                self.refused(error, "argument", "name", method, value)
                self.refused(error, "argument", "name", method, name=value)
        for method in (book.table_of, book.papers_of, Book().table_of):
            self.refused(UnknownName, "missing", "g", method, "g")
            self.refused(UnknownName, "missing", "abcdefgh", method, name="abcdefgh")

    def test_length_and_iteration(self):
        book = Book()
        self.same(len(book), 0)
        self.same(list(book), [])
        lines = ["table f 2:0001", "test f", "shades f"]
        for count, line in enumerate(lines):
            book.run(line)
            self.same(len(book), count + 1)
        self.same(list(book), book.rows())
        self.same([line for line, _ in book], lines)
        self.same(tuple(book)[1], ("test f", "3/8 break 10 01"))

    def test_in(self):
        book = book_with(f=AND, abcdefgh=AND)
        self.same("f" in book, True)
        self.same("abcdefgh" in book, True)
        for value in NO_TEXTS + NO_NAMES + ("g", "ff", ["f"], ("f",), {"f": 1}, {"f"}, [["f"]], "test f", ("table f 2:0001", "2:0001")):
            self.same(value in book, False, value)
        book.run("drop f")
        self.same("f" in book, False)
        book.undo()
        self.same("f" in book, True)

    def test_equal(self):
        lines = ["table f 2:0001", "paper f break 10 01", "test f"]
        one, two = Book(), Book()
        self.same(one == two, True)
        for line in lines:
            one.run(line)
            self.same(one == two, False)
            self.same(two == one, False)
            two.run(line)
            self.same(one == two, True)
            self.assertEqual(state(one), state(two))
        for value in NO_TEXTS + (one.rows(), tuple(one.rows()), len(one), AND, Led(AND), Asked(AND), Book, iter([])):
            self.same(one == value, False)
            self.same(Book() == value, False)
        two.undo()
        two.run("shades f")
        self.same(one == two, False)
        self.same(book_with(f=AND, g=AND) == book_with(g=AND, f=AND), False)

    def test_returned_lists_are_new(self):
        book = book_with(f=AND, g=AND)
        book.run("paper f break 10 01")
        before = state(book)
        for method in (book.rows, book.names, lambda: book.papers_of("f"), lambda: list(book)):
            changed(method())
            self.assertEqual(state(book), before)
        self.same(book.undo(), ("paper f break 10 01", "filed"))

    def test_books_are_apart(self):
        one, two = Book(), Book()
        one.run("table f 0:0")
        self.same("f" in two, False)
        self.same(len(two), 0)


if __name__ == "__main__":
    unittest.main()
