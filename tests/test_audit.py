"""The interface of audit.py, upon points 50 to 52."""

import copy
import unittest

from bitshades.audit import audit, book_of_text, book_text, first_difference, replay
from bitshades.book import Book
from bitshades.errors import (
    BadText,
    NameTaken,
    OutOfRange,
    ShadeError,
    UnknownName,
    WrongKind,
    WrongPaper,
    WrongSize,
)
from bitshades.tables import Table
from helping import NO_BOOKS, NO_ROWS, NO_TEXTS, Promises, as_lists, kind_faults, kinds, row_faults

LINES = [
    "table f 2:0001", "test f", "near f 1/4", "paper f break 10 01", "turn f 11", "paper f sum -", "sum f f g", "mend f h",
    "each test f g h", "votes f g h", "learn f 2", "shades g", "drop g",
]


def run(lines):
    book = Book()
    for line in lines:
        book.run(line)
    return book


class Replays(Promises):
    def test_example(self):
        book = replay(["table f 2:0001", "test f", "near f 1/4"])
        self.same(book.rows(), [("table f 2:0001", "2:0001"), ("test f", "3/8 break 10 01"), ("near f 1/4", "- 0 1 0,1")])

    def test_lines(self):
        for count in range(len(LINES) + 1):
            self.same(replay(LINES[:count]), run(LINES[:count]))
            self.same(replay(tuple(LINES[:count])), run(LINES[:count]))
        book = replay([])
        self.assertIs(type(book), Book)
        self.same((len(book), book.names()), (0, []))
        self.same(len(replay(["table f 0:0"] + ["test f"] * 99)), 100)
        one, two = replay(lines=LINES), replay(LINES)
        one.run("drop f")
        self.same(two, run(LINES))
        self.same(two.undo()[0], LINES[-1])

    def fails(self, error, attribute, told, lines):
        """Replaying raises this error, also where bad lines follow, and so does running the text."""
        for rest in ([], ["nothing"], ["test g", "x" * 300]):
            self.refused(error, attribute, told, replay, lines + rest)
            self.refused(error, attribute, told, replay, lines=tuple(lines + rest))

    def test_lines_that_cannot_be_run(self):
        self.fails(BadText, "position", 0, ["nothing"])
        self.fails(BadText, "position", 0, [""])
        self.fails(BadText, "position", 5, LINES[:3] + ["test F"])
        self.fails(UnknownName, "missing", "g", LINES[:3] + ["test g"])
        self.fails(NameTaken, "taken", "f", LINES[:3] + ["table f 0:0"])
        self.fails(WrongSize, "argument", "line", LINES[:3] + ["turn f 0"])
        self.fails(OutOfRange, "argument", "line", LINES[:3] + ["near f 2/1"])
        self.fails(WrongPaper, "paper_of", "f", LINES[:3] + ["paper f sum -"])
        self.fails(WrongSize, "argument", "line", ["x" * 201])
        self.fails(WrongSize, "argument", "line", LINES + ["test f" + " " * 195])
        self.fails(BadText, "position", 0, ["x" * 200, "x" * 201])

    def test_arguments(self):
        faults = row_faults(["table f 0:0", "test f"], 0, 100, kind_faults(NO_TEXTS))
        self.check_function(replay, {"lines": ["table f 0:0", "test f"]}, {"lines": faults})
        self.check_function(replay, {"lines": []}, {"lines": row_faults([], 0, 100, [])})
        self.check_calls(replay, {"lines": LINES})
        self.refused(WrongKind, "argument", "lines", replay, ["nothing", None])
        self.refused(WrongSize, "argument", "lines", replay, [None] * 101)
        for value in ("test f", Book(), {0: "test f"}, Table(0, [0])):
            self.refused(WrongKind, "argument", "lines", replay, value)


class Audits(Promises):
    def test_right_rows(self):
        rows = run(LINES).rows()
        self.same(audit(rows), None)
        self.same(audit(tuple(rows)), None)
        self.same(audit(as_lists(rows)), None)
        self.same(audit(rows=[list(rows[0])] + rows[1:]), None)
        self.same(audit([]), None)
        self.same(audit(()), None)

    def test_answers_and_lines_changed(self):
        rows = run(LINES).rows()
        for index, (line, answer) in enumerate(rows):
            for other in ("", answer + " ", answer[:-1], "none", "x" * 1000, line):
                self.same(audit(rows[:index] + [(line, other)] + rows[index + 1 :]), index)
            for other in ("", line + " ", "nothing", "x" * 201, "test zz", "x" * 5000):
                self.same(audit(rows[:index] + [(other, answer)] + rows[index + 1 :]), index)
                self.same(audit(rows[:index] + [[other, answer]] + [("", "")]), index)
        rows[3] = ("paper f break 01 10", "filed")
        self.same(audit(rows), None)
        rows[4] = ("turn f 00", "2:1001")
        self.same(audit(rows), 5)

    def test_each_error_is_found(self):
        rows = run(LINES[:4]).rows()
        for line in ("test F", "test g", "table f 0:0", "turn f 0", "near f 2/1", "paper f sum -", "x" * 201, ""):
            for answer in ("", "filed", "2:0001"):
                self.same(audit(rows + [(line, answer), ("nothing", "")]), 4)
        self.same(audit([("table f 0:0", "0:0")] + [("test f", "0/1 sum -")] * 99), None)
        self.same(audit([("table f 0:0", "0:0")] + [("test f", "0/1 sum -")] * 98 + [("test f", "0/1 sum")]), 99)

    def test_arguments(self):
        items = kind_faults(NO_ROWS) + [(value, WrongSize) for value in ([], (), ["test f"], ("a", "b", "c"), [None], (None,) * 3)]
        items += [(("test f", value), WrongKind) for value in NO_TEXTS] + [([value, ""], WrongKind) for value in NO_TEXTS]
        rows = [("table f 0:0", "0:0"), ["test f", "0/1 sum -"]]
        self.check_function(audit, {"rows": rows}, {"rows": row_faults(rows, 0, 100, items)})
        self.refused(WrongKind, "argument", "rows", audit, [("nothing", ""), ("x", None)])
        self.refused(WrongSize, "argument", "rows", audit, [("nothing", ""), ("x",)])
        self.refused(WrongKind, "argument", "rows", audit, run(LINES))
        self.refused(WrongKind, "argument", "rows", audit, [Table(1, [0, 1])])
        self.refused(WrongKind, "argument", "rows", audit, [{0: "a", 1: "b"}])
        self.refused(WrongKind, "argument", "rows", audit, ["ab"])


class Differences(Promises):
    def test_values(self):
        full = run(LINES)
        self.same(first_difference(full, full.twin()), None)
        self.same(first_difference(Book(), Book()), None)
        for count in range(len(LINES)):
            self.same(first_difference(full, run(LINES[:count])), count)
            self.same(first_difference(run(LINES[:count]), full), count)
        for index in range(1, len(LINES)):
            other = run(LINES[:index] + ["near f 1/1"])
            self.same(first_difference(full, other), index)
            self.same(first_difference(second=full, first=other), index)

    def test_same_line_with_another_answer(self):
        one, two = run(["table f 0:0", "test f"]), run(["table f 0:1", "test f"])
        self.same(first_difference(one, two), 0)
        self.same(first_difference(run(["table f 0:0", "table g 0:0", "drop f"]), run(["table f 0:0", "table g 0:0", "drop g"])), 2)

    def test_undone_rows(self):
        one, two = run(LINES), run(LINES[:-1])
        one.undo()
        self.same(first_difference(one, two), None)

    def test_arguments(self):
        good = {"first": run(LINES), "second": run(LINES[:2])}
        faults = {"first": kind_faults(NO_BOOKS), "second": kind_faults(NO_BOOKS)}
        self.check_function(first_difference, good, faults)
        self.check_function(book_text, {"book": run(LINES)}, {"book": kind_faults(NO_BOOKS)})


class Texts(Promises):
    def test_both_ways(self):
        for count in range(len(LINES) + 1):
            book = run(LINES[:count])
            text = "\n".join(LINES[:count])
            self.same(book_text(book), text)
            self.same(book_of_text(text), book)
            self.same(book_text(book=book_of_text(source=text)), text)
        self.same(book_text(Book()), "")
        self.same(book_of_text(""), Book())
        many = "\n".join(["table f 0:0"] + ["test f"] * 99)
        self.same(len(book_of_text(many)), 100)

    def test_books_stay(self):
        book = run(LINES)
        before = kinds(book)
        for function in (book_text, lambda one: first_difference(one, one), lambda one: first_difference(one, Book())):
            function(book)
            self.assertEqual(kinds(book), before)
        other = copy.deepcopy(book)
        self.same(other, book)

    def test_bad_line_behind_one_that_cannot_be_run(self):
        self.bad_text(7, book_of_text, "test f\nnothing")
        self.bad_text(12, book_of_text, "test f\ntest F")
        self.bad_text(7, book_of_text, "test f\n")
        self.refused(WrongSize, "argument", "source", book_of_text, "test f\n" + "x" * 201)
        self.refused(WrongSize, "argument", "source", book_of_text, "bad\n" * 100)
        self.refused(UnknownName, "missing", "f", book_of_text, "test f\ntest g")
        self.refused(NameTaken, "taken", "f", book_of_text, "table f 0:0\ntable f 0:0\ntest g")
        self.refused(WrongSize, "argument", "line", book_of_text, "table f 0:0\nturn f 0")

    def test_arguments(self):
        faults = kind_faults(NO_TEXTS) + [("test f\n" * 100, WrongSize), ("x" * 201, WrongSize)]
        for source in ("", "\n".join(LINES)):
            self.check_function(book_of_text, {"source": source}, {"source": faults})
        self.assertTrue(issubclass(BadText, ShadeError))


if __name__ == "__main__":
    unittest.main()
