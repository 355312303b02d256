"""Point 50 and the interface of scripts.py."""

import unittest

from bitshades.errors import BadText, OutOfRange, WrongKind, WrongSize
from bitshades.scripts import format_line, parse_line, parse_script
from bitshades.tables import Table
from helping import NO_NAMES, NO_TEXTS, Promises, kind_faults, row_faults, text_faults

NAMES = ("f", "abcdefgh", "shades", "zz")
TABLES = ("0:1", "1:01", "2:0001", "6:" + "01" * 32)
WORDS = ("-", "0", "101", "111111")
SETS = ("-", "0", "5", "0,1,2,3,4,5", "1,4")
RATIOS = ("1/4", "-2/3", "0/1", "999999999/999999999", "7/2", "2/2")
FEWS = ("0", "3", "6")
VERBS = ("table", "drop", "sum", "mend", "turn", "shades", "near", "test", "learn", "votes", "paper", "each")

BAD_TABLES = ("", "2", "2:", "2:000", "2:00011", "7:0", "x:0", "2;0001", "2:0002", "-", "2:00-1", "0:", "2:0001\t", "6:0")
BAD_WORDS = ("", "2", "0-", "-0", "--", "0000000", "01a", "1\n", "10,")
BAD_SETS = ("", "6", "7", "9", "0,", ",", "1,1", "2,1", "0,6", "5,9", "-1", "--", "0.1", "0,1,2,3,4,5,", "a", "01")
BAD_RATIOS = ("", "1", "/", "1/", "/2", "1/0", "01/2", "1/02", "-0/1", "--1/2", "1/-2", "1234567890/1", "1/1234567890", "1/2/3", "1.5/2", "a/b", "+1/2")
BAD_FEWS = ("", "7", "9", "10", "00", "-1", "a", "0,", "\t", "3\n")
BAD_VERBS = ("", "table", "learn", "Test", "tests", "shade", "each", "f", "near", "test\t")

# For each form of a line its pieces: a kind and good and bad pieces for it.
KINDS = {
    "NAME": (NAMES, tuple(name for name in NO_NAMES if " " not in name and len(name) < 100)),
    "TABLE": (TABLES, BAD_TABLES),
    "WORD": (WORDS, BAD_WORDS),
    "SET": (SETS, BAD_SETS),
    "RATIO": (RATIOS, BAD_RATIOS),
    "FEW": (FEWS, BAD_FEWS),
    "VERB": (("shades", "test"), BAD_VERBS),
    "break": (("break",), ("", "brea", "breaks", "Sum", "f", "filed", "10", "sum\t")),
    "sum": (("sum",), ("", "su", "sums", "0", "break\n")),
}
FORMS = (
    "table NAME TABLE", "drop NAME", "sum NAME NAME NAME", "mend NAME NAME", "turn NAME WORD", "shades NAME",
    "near NAME RATIO", "test NAME", "learn NAME FEW", "votes NAME NAME NAME", "paper NAME break WORD WORD",
    "paper NAME sum SET", "each VERB NAME", "each VERB NAME NAME", "each VERB NAME NAME NAME NAME NAME NAME NAME NAME",
)
NO_VERBS = ("", "Table", "tables", "f", "undo", "break", "TABLE", "table\t", "\n", "each\n", "0", "-", "tab", "x" * 190)


def good_pieces(form, turn):
    """A right line of the form; another one for each turn."""
    pieces = []
    for index, piece in enumerate(form.split(" ")):
        choices = KINDS.get(piece, ((piece,), ()))[0] if index > 0 else (piece,)
        pieces.append(choices[(turn + index) % len(choices)])
    return pieces


def good_lines():
    return [good_pieces(form, turn) for form in FORMS for turn in range(6)]


class Lines(Promises):
    def bad_line(self, position, line):
        self.bad_text(position, parse_line, line)
        pieces = line.split(" ")
        if 1 <= len(pieces) <= 10:
            self.refused(OutOfRange, "argument", "pieces", format_line, pieces)
        if "\n" not in line:
            if line:
                self.bad_text(position, parse_script, line)
            self.bad_text(len("drop f\n") + position, parse_script, "drop f\n" + line + "\ndrop f\nnothing")

    def test_right_lines(self):
        for pieces in good_lines():
            line = " ".join(pieces)
            self.assertLessEqual(len(line), 200)
            self.same(parse_line(line), tuple(pieces))
            self.same(parse_line(line=line), tuple(pieces))
            self.same(format_line(pieces), line)
            self.same(format_line(tuple(pieces)), line)
            self.same(format_line(pieces=pieces), line)
            self.same(parse_script(line), [tuple(pieces)])

    def test_example(self):
        self.same(parse_line("paper f break 10 01"), ("paper", "f", "break", "10", "01"))
        self.bad_line(5, "test  f")

    def test_each_piece_wrong(self):
        for form in FORMS:
            kinds = form.split(" ")
            pieces = good_pieces(form, 1)
            for index in range(1, len(kinds)):
                for bad in KINDS[kinds[index]][1]:
                    if kinds[index] in ("break", "sum") and bad in ("break", "sum"):
                        continue
                    for rest in (pieces[index + 1 :], [], ["?"], [""]):
                        line = " ".join(pieces[:index] + [bad] + rest)
                        self.bad_line(len(" ".join(pieces[:index])) + 1, line)

    def test_verbs(self):
        for verb in NO_VERBS:
            for rest in ([], ["f"], [""], ["f", "2:0001"]):
                self.bad_line(0, " ".join([verb] + rest))
        for verb in VERBS:
            self.bad_line(0, " " + verb + " f")
            self.bad_line(0, verb + "\tf")
            self.bad_line(0, verb + "\nf")
            self.bad_line(0, verb.upper() + " f")
            self.bad_line(len(verb), verb)
            self.bad_line(len(verb) + 1, verb + " ")
            self.bad_line(len(verb) + 1, verb + "  f")
        self.bad_line(0, "")
        self.bad_line(0, " ")

    def test_pieces_too_few(self):
        for form in FORMS:
            pieces = good_pieces(form, 2)
            least = 3 if form.startswith("each") else len(pieces)
            for count in range(1, least):
                line = " ".join(pieces[:count])
                self.bad_line(len(line), line)
                self.bad_line(len(line) + 1, line + " ")
        self.bad_line(7, "paper f")
        self.bad_line(11, "paper f sum")
        self.bad_line(13, "paper f break")
        self.bad_line(16, "paper f break 10")
        self.bad_line(9, "each test")

    def test_pieces_too_many(self):
        for form in FORMS:
            pieces = good_pieces(form, 3)
            line = " ".join(pieces)
            if form.startswith("each") and len(pieces) < 10:
                self.same(parse_line(line + " more"), tuple(pieces) + ("more",))
                self.bad_line(len(line) + 1, line + " 0")
            else:
                for more in ("f", "0", "", "sum", "?", "f g h i"):
                    self.bad_line(len(line) + 1, line + " " + more)
            self.bad_line(len(line) + 1, line + " ")
            self.bad_line(len(line) + 1, line + "  ")
        line = "each shades a b c d e f g h"
        self.bad_line(len(line) + 1, line + " i")
        self.bad_line(len(line) + 1, line + " i j k l")

    def test_tabs_and_line_feeds_are_part_of_a_piece(self):
        for mark in ("\t", "\n"):
            self.bad_line(5, f"test f{mark}")
            self.bad_line(5, f"test {mark}f")
            self.bad_line(5, f"test {mark}")
            self.bad_line(5, f"test f{mark}g")
            self.bad_line(8, f"table f 2:0001{mark}")
            self.bad_line(7, f"turn f 1{mark}0")
            self.bad_line(14, f"each shades f {mark} g")

    def test_second_fault_is_not_told(self):
        self.bad_line(6, "table F 9:x")
        self.bad_line(6, "paper F what")
        self.bad_line(8, "paper f what -0 -0")
        self.bad_line(8, "paper f breaks 2")
        self.bad_line(5, "each ring F")

    def test_names_may_be_equal(self):
        for line in ("sum f f f", "votes f f f", "mend f f", "each test f f f", "table table 0:0", "drop drop", "sum sum sum sum"):
            self.same(parse_line(line), tuple(line.split(" ")))

    def test_long_lines(self):
        piece = "6:" + "0" * 64
        line = "table f " + piece
        self.same(parse_line(line), ("table", "f", piece))
        for count in (199, 200):
            self.bad_text(0, parse_line, "x" * count)
            self.bad_text(8, parse_line, "table f " + "6" * (count - 8))
            self.bad_text(5, parse_line, "drop " + " " * (count - 5))
        for count in (201, 500):
            self.refused(WrongSize, "argument", "line", parse_line, "x" * count)
            self.refused(WrongSize, "argument", "line", parse_line, "drop f" + " " * (count - 6))
            self.refused(OutOfRange, "argument", "pieces", format_line, ["x" * count])
        self.bad_text(12 + 9 * 8, parse_line, "each shades " + "abcdefgh " * 8 + "x" * 116)
        self.refused(WrongSize, "argument", "line", parse_line, "each shades " + "abcdefgh " * 8 + "x" * 117)

    def test_arguments(self):
        for line in ("drop f", "paper f sum 0,1", "each test a b c d e f g h"):
            self.check_function(parse_line, {"line": line}, {"line": text_faults()})


class Formatting(Promises):
    def test_pieces_with_spaces(self):
        for pieces in (["table", "f 0:0"], ["table f 0:0"], ["drop f"], ["each", "test f", "g"], ["drop", "f "], [" drop", "f"], ["drop ", "f"]):
            self.refused(OutOfRange, "argument", "pieces", format_line, pieces)
            self.refused(OutOfRange, "argument", "pieces", format_line, tuple(pieces))

    def test_pieces_that_are_no_line(self):
        for pieces in ([""], ["", ""], ["drop"], ["drop", ""], ["drop", "", "f"], ["drop", "f", "g"], ["drop", "F"], ["drop\n", "f"], ["?"] * 10):
            self.refused(OutOfRange, "argument", "pieces", format_line, pieces)

    def test_long_pieces(self):
        for pieces in (["drop", "f" * 196], ["drop", "f" * 195], ["x" * 1000], ["table", "f", "6:" + "0" * 1000], ["x" * 50] * 10):
            self.refused(OutOfRange, "argument", "pieces", format_line, pieces)

    def test_arguments(self):
        faults = row_faults(["drop", "f"], 1, 10, kind_faults(NO_TEXTS))
        self.check_function(format_line, {"pieces": ["drop", "f"]}, {"pieces": faults})
        ten = ["each", "test"] + list("abcdefgh")
        self.check_function(format_line, {"pieces": ten}, {"pieces": row_faults(ten, 1, 10, kind_faults(NO_TEXTS))})
        self.refused(WrongKind, "argument", "pieces", format_line, ["nothing", 0])
        self.refused(WrongKind, "argument", "pieces", format_line, ["x" * 300, None])
        self.refused(WrongSize, "argument", "pieces", format_line, [None] * 11)
        self.refused(WrongKind, "argument", "pieces", format_line, "drop f")
        self.refused(WrongKind, "argument", "pieces", format_line, Table(0, [0]))
        self.refused(WrongKind, "argument", "pieces", format_line, {"drop": "f"})


class Scripts(Promises):
    def test_lines(self):
        lines = [" ".join(pieces) for pieces in good_lines()]
        self.same(parse_script("\n".join(lines)), [tuple(pieces) for pieces in good_lines()])
        self.same(parse_script(""), [])
        self.same(parse_script("drop f"), [("drop", "f")])
        self.same(parse_script(source="drop f\ndrop f"), [("drop", "f"), ("drop", "f")])

    def test_first_bad_line(self):
        self.bad_text(7, parse_script, "drop f\n")
        self.bad_text(0, parse_script, "\n")
        self.bad_text(0, parse_script, "\ndrop f")
        self.bad_text(7, parse_script, "drop f\n\ndrop f")
        self.bad_text(11, parse_script, "drop f\ndrop\ntest\n")
        self.bad_text(12, parse_script, "drop f\ndrop F\n")
        self.bad_text(12, parse_script, "drop f\ntest  f")
        self.bad_text(5, parse_script, "drop F\n\n\n")
        self.bad_text(5, parse_script, "drop f\tdrop f")
        self.bad_text(14, parse_script, "drop f\ndrop f\n")

    def test_many_lines(self):
        lines = ["drop f"] * 100
        self.same(parse_script("\n".join(lines)), [("drop", "f")] * 100)
        self.refused(WrongSize, "argument", "source", parse_script, "\n".join(lines) + "\n")
        self.refused(WrongSize, "argument", "source", parse_script, "\n" * 100)
        self.refused(WrongSize, "argument", "source", parse_script, "bad\n" * 1000)
        self.bad_text(0, parse_script, "\n" * 99)
        self.bad_text(7 * 99, parse_script, "drop f\n" * 99)

    def test_long_lines(self):
        for long in ("x" * 201, "drop f" + " " * 195, "x" * 5000):
            for source in (long, "bad\n" + long, long + "\nbad", "\n\n" + long, "drop f\n" + long + "\ndrop f"):
                self.refused(WrongSize, "argument", "source", parse_script, source)
        self.bad_text(0, parse_script, "x" * 200)
        self.bad_text(0, parse_script, "\n".join(["x" * 200] * 100))
        longest = "each shades " + " ".join(["abcdefgh"] * 8)
        self.assertGreater(len("\n".join([longest] * 100)), 200)
        self.same(len(parse_script("\n".join([longest] * 100))), 100)

    def test_arguments(self):
        faults = kind_faults(NO_TEXTS) + [("drop f\n" * 100, WrongSize), ("x" * 201, WrongSize)]
        for source in ("", "drop f", "drop f\ntable f 0:0"):
            self.check_function(parse_script, {"source": source}, {"source": faults})
        self.assertTrue(issubclass(BadText, ValueError))


if __name__ == "__main__":
    unittest.main()
