"""What the tests of several files share: wrong arguments of each kind, and one way to try them."""

import copy
import inspect
import unittest

from bitshades.asking import Asked, Trial
from bitshades.book import Book
from bitshades.changes import Led
from bitshades.errors import BadText, OutOfRange, ShadeError, Spent, WrongKind, WrongSize
from bitshades.tables import Table

HUGE = 10**999 + 7
HOLDING_FRACTIONS = ("fractions", "values", "wanted")
NO_WIDTH_TRIAL = Trial(0, 0, [], Table(0, [0]))
NO_INTEGERS = (True, False, None, "1", "", b"1", 1.0, 0.0, (0, 1), (), [0], [], {}, {0: 1}, Table(0, [0]), int)
NO_ROWS = (None, True, False, 0, 1, "", "01", b"01", 1.0, {}, {0: 1}, {0}, range(1), iter([0]), Table(0, [0]), list)
NO_TEXTS = (None, True, False, 0, 1, b"", b"0", 1.0, [], ["0"], (), ("0",), {}, Table(0, [0]), str)
NO_TABLES = (
    None, True, False, 0, 1, "", "0:0", "2:0001", 1.0, [], [0], (), (0, (0,)), {}, {0: 0}, Table,
    Asked(Table(0, [0])), NO_WIDTH_TRIAL, Led(Table(0, [0])), Book(),
)
NO_ASKED = (
    None, True, False, 0, 1, "", "0:0", 1.0, [], [0], (), {}, Table(0, [0]), Asked, NO_WIDTH_TRIAL, Led(Table(0, [0])), Book(),
)
NO_BOOKS = (
    None, True, False, 0, 1, "", "table f 0:0", 1.0, [], [("table f 0:0", "0:0")], (), {}, Book, Table(0, [0]),
    Led(Table(0, [0])), Asked(Table(0, [0])),
)
NO_NAMES = ("", "abcdefghi", "a" * 200, "a" * 201, "A", "aB", "a1", "1", "a b", " a", "a ", "a-b", "a_", "{", "`", "a\n", "\t")
NO_TRIALS = (None, True, False, 0, 1, "", 1.0, [], (), (0, 0, (), Table(0, [0])), {}, Trial, Table(0, [0]), Asked(Table(0, [0])))
NO_WIDTHS = ((-1, OutOfRange), (7, OutOfRange), (64, OutOfRange), (HUGE, OutOfRange), (-HUGE, OutOfRange))


def kind_faults(values):
    """The values as faults of kind."""
    return [(value, WrongKind) for value in values]


def integer_faults(least=None, greatest=None):
    """The faults of an argument that is an integer between the bounds; no bounds for any size."""
    faults = kind_faults(NO_INTEGERS)
    if least is not None:
        faults += [(least - 1, OutOfRange), (-HUGE, OutOfRange)]
        faults += [(greatest + 1, OutOfRange), (HUGE, OutOfRange)]
    return faults


def width_faults():
    return integer_faults(0, 6)


def word_faults(width):
    return integer_faults(0, 2**width - 1)


def place_faults(width):
    return integer_faults(0, width - 1)


def table_faults():
    return kind_faults(NO_TABLES)


def text_faults():
    return kind_faults(NO_TEXTS) + [("0" * 201, WrongSize), ("x" * 201, WrongSize), ("-" * 500, WrongSize)]


def name_faults():
    return kind_faults(NO_TEXTS) + [(value, OutOfRange) for value in NO_NAMES]


def order_faults():
    """The faults of an order."""
    others = ("", "a", "ab", "abd", "aab", "abca", "ABC", " abc", "abc ", "ring", "a,b,c", "abc\n", "abc" * 100)
    return kind_faults(NO_TEXTS) + [(value, OutOfRange) for value in others]


def row_faults(row, least, greatest, item_faults):
    """The faults of a row: kind, length, then each item, where `row` is a right one."""
    faults = kind_faults(NO_ROWS)
    filler = row[0] if row else 0
    for item in (filler, None, -1):
        faults += [([item] * (greatest + 1), WrongSize), ((item,) * (greatest + 2), WrongSize)]
        if least > 0:
            faults += [([item] * (least - 1), WrongSize), ([], WrongSize), ((), WrongSize)]
    for index in range(len(row)):
        for item, error in item_faults:
            faults.append((list(row[:index]) + [item] + list(row[index + 1 :]), error))
    if len(row) > 1 and item_faults:
        faults += first_item_faults(row, item_faults)
    return faults


def first_item_faults(row, item_faults):
    """Rows with two bad items of unlike faults: the first one is told."""
    by_error = {}
    for item, error in item_faults:
        by_error.setdefault(error, item)
    faults = []
    for early in by_error:
        for late in by_error:
            faults.append((list(row[:-2]) + [by_error[early], by_error[late]], early))
            faults.append((tuple(row[:-2]) + (by_error[early], by_error[late]), early))
    return faults


def fraction_faults():
    """The faults of a fraction, each kind of them and their order."""
    faults = kind_faults((None, True, 0, 1, "1/2", 0.5, [1, 2], [], {}, {1: 2}, Table(0, [0])))
    faults += [(value, WrongSize) for value in ((), (1,), (1, 2, 3), (None,), (None, None, None), (1, 0, 0))]
    for value in NO_INTEGERS:
        faults += [((value, 2), WrongKind), ((1, value), WrongKind), ((value, 0), WrongKind), ((value, -1), WrongKind)]
    faults += [((1, 0), OutOfRange), ((0, 0), OutOfRange), ((1, -1), OutOfRange), ((-1, -HUGE), OutOfRange)]
    return faults


def threshold_faults():
    """The faults of a fraction that must be greater than 0 and at most 1."""
    outside = ((0, 1), (0, HUGE), (-1, 2), (-HUGE, 1), (2, 1), (3, 2), (HUGE, HUGE - 1))
    return fraction_faults() + [(value, OutOfRange) for value in outside]


def share_faults():
    """The faults of a fraction that must be from 0 to 1 with a second item of at most 10000."""
    outside = ((-1, 2), (-HUGE, 1), (2, 1), (3, 2), (10001, 10000), (HUGE, 1), (1, 10001), (0, 10001), (-1, 10001))
    outside += ((10001, 10001), (5000, 20000), (1, HUGE), (HUGE, HUGE))
    return fraction_faults() + [(value, OutOfRange) for value in outside]


def word_pair_faults(width, pairs, least, greatest):
    """The faults of a row of rows of two words, where `pairs` is a right one."""
    items = kind_faults(NO_ROWS)
    items += [(value, WrongSize) for value in ([], (), [0], (None,), [0, 0, 0], (0, 0, None), [None, None, None])]
    for value, error in word_faults(width):
        items += [([value, 0], error), ((0, value), error)]
    items += [((-1, None), OutOfRange), ([None, -1], WrongKind)]
    return row_faults(pairs, least, greatest, items)


def field_faults():
    """The faults of a field."""
    lengths = [length for length in range(70) if length not in (1, 2, 4, 8, 16, 32, 64)] + [128]
    faults = kind_faults(NO_ROWS)
    for item in (0, None):
        faults += [([item] * length, WrongSize) for length in lengths]
    for value in NO_INTEGERS:
        faults += [([value], WrongKind), ([1, value], WrongKind), ([1, 2, 3, value], WrongKind), ((value, 0), WrongKind)]
    return faults


def kinds(value):
    """The value with its kind told at each level, so that True is not 1 and a list is no tuple."""
    if isinstance(value, (list, tuple)):
        return (type(value).__name__, [kinds(item) for item in value])
    if isinstance(value, Table):
        return ("Table", kinds(value.width), kinds(value.bits))
    if isinstance(value, Asked):
        return ("Asked", kinds(value.width), kinds(value.limit), kinds(value.log()))
    if isinstance(value, Trial):
        return ("Trial", kinds(value.width), kinds(value.coins), kinds(value.asks), kinds(value.verdict))
    if isinstance(value, Led):
        return ("Led", kinds(value.table), kinds(value.scores), kinds(value.breaking), kinds(value.steps()))
    if isinstance(value, Book):
        held = [(name, kinds(value.table_of(name)), kinds(value.papers_of(name))) for name in value.names()]
        return ("Book", kinds(value.rows()), held)
    return (type(value).__name__, value)


def has_row(value):
    """Whether a list stands in the value, at any depth."""
    return isinstance(value, list) or (isinstance(value, tuple) and any(has_row(item) for item in value))


def as_tuples(value):
    """The value with a tuple in the place of each list, at each depth."""
    return tuple(as_tuples(item) for item in value) if isinstance(value, (list, tuple)) else value


def as_lists(value):
    """The value with a list in the place of each tuple, at each depth."""
    return [as_lists(item) for item in value] if isinstance(value, (list, tuple)) else value


def changed(value):
    """Change a returned list, and each list within it."""
    if isinstance(value, (list, tuple)):
        for item in value:
            changed(item)
    if isinstance(value, list):
        value.reverse()
        value.append("changed")


class Promises(unittest.TestCase):
    """A test that compares kinds as well as values, and that tries wrong arguments."""

    def same(self, got, wanted, message=None):
        """Both are equal, also in the kinds of all values in them."""
        self.assertEqual(kinds(got), kinds(wanted), message)

    def refused(self, error, attribute, told, function, *values, **named):
        """The call raises exactly this error with this value of its attribute."""
        message = f"{function} with {values!r} {named!r}"[:300]
        try:
            result = function(*values, **named)
        except ShadeError as fault:
            self.assertIs(type(fault), error, message)
            self.assertEqual(vars(fault), {attribute: told}, message)
            self.assertIs(type(getattr(fault, attribute)), type(told), message)
        else:
            self.fail(f"{message} gave {result!r}")

    def bad_text(self, position, function, *values):
        self.refused(BadText, "position", position, function, *values)

    def check_calls(self, function, good):
        """By position and by name, twice; arguments stay, and a returned list is new."""
        values = list(good.values())
        before = copy.deepcopy(values)
        wanted = function(*copy.deepcopy(values))
        self.same(function(*values), wanted)
        self.same(function(**good), wanted)
        self.same(values, before)
        turned = {name: good[name] for name in reversed(good)}
        returned = function(**turned)
        self.same(returned, wanted)
        changed(returned)
        self.same(values, before)
        self.same(function(*values), wanted)
        for name, value in good.items():
            if isinstance(value, list):
                self.same(function(**{**good, name: tuple(value)}), wanted)
            if has_row(value):
                self.same(function(**{**good, name: as_tuples(value)}), wanted)
            if has_row(value) and name not in HOLDING_FRACTIONS:
                self.same(function(**{**good, name: as_lists(value)}), wanted)

    def check_asking(self, function, table, named, words):
        """A function of an Asked object asks exactly these words, each time anew, also up to a limit.

        `named` are its other arguments, in the order of its heading.
        """
        before = copy.deepcopy(named)
        asked = Asked(table)
        wanted = function(asked, **named)
        self.same(asked.log(), words)
        for tried in ({"asked": asked, **named}, {**named, "asked": asked}):
            self.same(function(**tried), wanted)
        returned = function(asked, *named.values())
        self.same(returned, wanted)
        changed(returned)
        self.same(function(asked, *as_tuples(list(named.values()))), wanted)
        self.same(asked.log(), words * 5)
        self.same(named, before)
        self.same(function(Asked(table, limit=len(words)), **named), wanted)
        for limit in range(len(words)):
            asked = Asked(table, limit=limit)
            self.refused(Spent, "allowed", limit, function, asked, **named)
            self.same(asked.log(), words[:limit])
            self.same(asked.asks, limit)

    def check_refusing(self, function, table, named, faults):
        """The faults of a function of an Asked object; none of the refused calls asks."""
        asked = Asked(table, limit=0)
        names = ["asked"] + list(named)
        self.assertEqual([name for name in inspect.signature(function).parameters], names)
        all_faults = {"asked": kind_faults(NO_ASKED), **faults}
        self.check_faults(function, {"asked": asked, **named}, all_faults)
        self.same(asked.asks, 0)

    def check_judge(self, judge, known, right, is_right):
        """A judge of a paper, in the place after `known`: right ones, changed ones, and any values.

        `is_right` tells of any value whether it is right, from the words of the document.
        """
        for paper in right:
            self.assertTrue(is_right(paper))
            before = kinds(paper)
            self.same(judge(*known, paper), True)
            self.same(kinds(paper), before)
            for other in changes(paper):
                # What would be right with integers in the place of bools is not promised.
                if is_right(other) or not is_right(without_bools(other)):
                    self.same(judge(*known, other), is_right(other), other)
        for paper in ANY_VALUES:
            self.same(judge(*known, paper), is_right(paper), paper)

    def check_faults(self, function, good, faults):
        """Each fault is told, and of two faults the one of the earlier parameter."""
        names = list(good)
        self.assertEqual(names, list(faults))
        for name in names:
            for value, error in faults[name]:
                self.refused(error, "argument", name, function, **{**good, name: value})
                self.refused(error, "argument", name, function, *{**good, name: value}.values())
        for index, early in enumerate(names):
            for late in names[index + 1 :]:
                self.check_order(function, good, early, late, faults)

    def check_order(self, function, good, early, late, faults):
        for value, error in one_of_each(faults[early]):
            for other, _ in one_of_each(faults[late]):
                self.refused(error, "argument", early, function, **{**good, early: value, late: other})

    def check_function(self, function, good, faults):
        """All that holds of a function with these right and wrong arguments."""
        taken = [name for name in inspect.signature(function).parameters]
        self.assertEqual(taken, list(good))
        self.check_calls(function, good)
        self.check_faults(function, good, faults)


def nest(value, depth, kind):
    """The value within that many rows."""
    return value if depth == 0 else kind([nest(value, depth - 1, kind)])


ANY_VALUES = (
    None, True, False, 0, 1, -1, 64, HUGE, -HUGE, "", "sum", "break", "unlike", "0", "\n", Table(0, [0]), Table(2, [0, 0, 0, 1]),
    [], (), [[]], [()], ([],), ((),), [None], (None,), [True], [0], (0,), ["sum"], ("sum",), ("break",), ("sum", None),
    ("sum", "0"), ("sum", -1), ("sum", HUGE), ("sum", []), ("sum", ()), ("sum", Table(0, [0])), ("sum", 64), ("break", 0),
    ("break", -1, -1), ("break", None, 0), ("break", "1", "2"), ("break", (1,), (2,)), ("break", Table(0, [0]), 0),
    ("break", 64, 64), ("break", 0, HUGE), (Table(0, [0]), 0), (Table(2, [0, 0, 0, 1]), 1, 2), (0, 0), (None, 1, 2),
    ([], 1), (("sum",), 0), [("sum", 0)], [(0, 0)], [(0, 1)], [(0, None)], [(None, 0)], [(Table(0, [0]), 1)], [("0", 1)],
    [(0, 1, 1)], [(0,)], [((0,), 1)], [([0], 1)], [(0, [1])], [(-1, 1)], [(64, 0)], [(HUGE, HUGE)], [(0, Table(0, [0]))],
    [Table(0, [0])], [Table(2, [0, 0, 0, 1]), (0, 1)], (Table(0, [0]),), [[(0, (1, 1), None)]], [[(0, 1, True)]],
    [[Table(0, [0])]], [[(Table(0, [0]), (1, 1), True)]], [[(0, Table(0, [0]), True)]], [[(0, (1, 1))]], [[0]], [["0"]],
    (0, 0, 1), (0, (1, 0, 1), 1), (0, (0, 0, 1), 1), (0, 0, (6, 0, 1)), (HUGE, 0, 1), (-1, 0, 1), ("0", 0, 1), (None, 0, 1),
    (0, 0), (0, 0, 1, 1), (0, [1, 0, 1], 0), [0, 0, 1], (0, 0, None), (0, 2, 1), (0, -1, 1), (0, Table(0, [0]), 1), (Table(0, [0]), 0, 1),
    (0, Table(0, [0])), (0, Table(0, [1])), (1, Table(1, [0, 1])), (3, Table(2, [0, 0, 0, 1])), (0, Table(0, [0]), []), (0, "0:0"),
    [(0, 0), (1, 1)], [(0, 64)], [(6, 0)], [(0, HUGE)], [(HUGE, 0)], [(-1, -1)], [("0", "1")], [((0, 0), (0, 0))], [None, (0, 0)],
    ("unlike", 0, 1), ("unlike", 1, 0), ("unlike", 0, 0), ("unlike", 0, 3), ("unlike", -1, 0), ("unlike", 0, None),
    ("unlike", "0", "1"), ("unlike", Table(0, [0]), 1), ("own", 0, 0), ("own", 0, 1), ("own", 0, 2), ("own", 6, 0), ("own", -1, 0),
    ("own", None, None), ("own", [], []), ("own", 0), ("ring",), ("ring", []), ("ring", ()), ("ring", None), ("ring", "abc"),
    ("ring", ["abc"]), ("ring", ["abd"]), ("ring", [None]), ("ring", [["abc"]]), ("ring", [Table(0, [0])]), ("ring", [0, 1]),
    ("ring", ["abc", "bca", "cab"]), ("ring", ["ring"]), ("ring", [""]), ("ring", [], []), ["ring", []], ("ring", 0, 1), "ring",
    nest(0, 20, list), nest(0, 20, tuple), nest((), 19, list), nest(Table(0, [0]), 20, tuple), [0] * 1000, ("sum",) * 1000,
    [(0, 1)] * 1000,
)


def without_bools(value):
    """The value with the equal integer in the place of each bool, at each depth."""
    if isinstance(value, (list, tuple)):
        return type(value)(without_bools(item) for item in value)
    return int(value) if isinstance(value, bool) else value


def equal_in_kind(value, other):
    """Both are equal, or would be with the proper kinds; of such values nothing is promised."""
    if isinstance(value, (list, tuple)) and isinstance(other, (list, tuple)):
        return len(value) == len(other) and all(equal_in_kind(*pair) for pair in zip(value, other))
    return value == other


def changes(value):
    """The value with one thing changed, at each depth."""
    others = [None, "", "sum", -1, HUGE, [], (), [value], (value,), Table(0, [0]), [[]], ((),), 2]
    if isinstance(value, int):
        others += [value + 1, value - 1, -value, str(value), (value, 1), not value, 64]
    if isinstance(value, str):
        others += [value + " ", value[:-1], value.upper()]
    if isinstance(value, (list, tuple)):
        kind = type(value)
        for index in range(len(value)):
            before, item, after = value[:index], value[index], value[index + 1 :]
            others += [before + kind([other]) + after for other in changes(item)]
            others += [before + after, before + kind([item, item]) + after, value + kind([item])]
            others += [kind([item]) + before + after]
        others += [value + kind([other]) for other in (None, 0, 1, (), [], Table(0, [0]))]
        others += [value[::-1]]
    return [other for other in others if not equal_in_kind(value, other)]


def one_of_each(faults):
    """For each error class the first and the last fault, which for a row is one of an item."""
    first = {}
    last = {}
    for value, error in faults:
        first.setdefault(error, value)
        last[error] = value
    return [(value, error) for chosen in (first, last) for error, value in chosen.items()]
