"""Points 2, 3 and 8 for every name of the interface: one right call of each function and method."""

import copy
import importlib
import inspect
import unittest

from bitshades.asking import Asked, Trial, pair_trial, turn_trial
from bitshades.book import Book
from bitshades.changes import Led
from bitshades.degree import terms
from bitshades.learning import core, place_pairs
from bitshades.making import drawn_table, most_table, place_table, sum_table
from bitshades.mending import mend_log
from bitshades.nearest import nearest_paper
from bitshades.pairs import sum_paper
from bitshades.parting import beside, composed
from bitshades.seeking import near_log
from bitshades.shades import scores
from bitshades.tables import Table
from bitshades.votes import ring_paper
from helping import Promises, changed, kinds
from test_interface import CLASSES, FUNCTIONS

AND = Table(2, [0, 0, 0, 1])
OTHER = Table(2, [0, 1, 1, 1])
WIDE = drawn_table(4, 9)
VOTE = most_table(3)
TREE = (2, 0, (0, 1, (1, 0, 1)))
SAMPLES = [(0, 3), [1, 2], (3, 3)]
LINES = ["table f 2:0001", "test f", "paper f break 10 01", "turn f 00", "drop f"]
ROWS = [("table f 2:0001", "2:0001"), ["test f", "3/8 break 10 01"], ("drop f", "gone")]
KINDS = (int, str, bool, type(None), list, tuple, Table, Asked, Trial, Led, Book)


def run(lines):
    book = Book()
    for line in lines:
        book.run(line)
    return book


# Right arguments of the functions of each file by their names; OWN_VALUES has those of a single function.
VALUES = {
    "ratios": {"top": 6, "bottom": -4, "first": (3, 6), "second": (-2, 3), "base": (2, 4), "exponent": 5, "fractions": [(1, 2), (2, 6)], "fraction": (-7, 2)},
    "words": {
        "width": 4, "word": 6, "place": 2, "first": 5, "second": 13, "chosen": 11, "bits": [1, 0, 1], "places": [3, 0], "count": 3,
        "size": 2, "order": [2, 0, 3, 1], "words": [3, 5, 3],
    },
    "notation": {"width": 4, "word": 6, "chosen": 11, "fraction": (-4, 6)},
    "making": {
        "width": 3, "bit": 1, "chosen": 5, "place": 2, "bits": [0, 1, 1], "weights": [3, -1, 2], "bound": 1, "words": [1, 4, 1], "count": 5, "seed": 77,
    },
    "parting": {"table": AND, "word": 2, "order": [1, 0], "chosen": 2, "values": 1, "width": 4, "place": 1, "outer": AND, "inner": OTHER},
    "shades": {"field": [3, -1, 4, 1], "table": AND, "chosen": 3, "place": 1, "sets": [1, 3, 1], "threshold": (2, 8)},
    "products": {"first": [1, 2, 3, 4], "second": [5, 0, -6, 1], "table": WIDE, "word": 9, "order": [3, 1, 0, 2], "chosen": 5, "values": 2, "words": [3, 12]},
    "pairs": {"table": AND, "first": 1, "second": 2, "pairs": [(1, 2), [3, 3]], "words": [1, 3], "third": AND, "paper": sum_paper(AND)},
    "nearest": {"first": AND, "second": OTHER, "table": AND, "share": (1, 4), "paper": nearest_paper(AND)},
    "mending": {"table": WIDE, "word": 7, "rounds": 2, "log": mend_log(WIDE)},
    "asking": {"word": 2, "words": [1, 3, 1], "trial": pair_trial(2), "coin_row": 9, "table": AND, "times": 3, "width": 3, "place": 1, "bit": 1},
    "seeking": {
        "table": AND, "count": 1, "start": 1, "threshold": (1, 4), "share": (1, 4), "log": near_log(AND, (1, 4)), "width": 2, "samples": SAMPLES, "cut": (1, 3),
    },
    "influence": {"table": AND, "place": 1, "chosen": 3, "wanted": [(1, 2), (2, 4)]},
    "noise": {"width": 3, "word": 5, "share": (1, 3), "table": AND, "values": [(1, 2), (0, 1), (-3, 4), (5, 5)], "place": 1, "first": (1, 4), "second": (2, 3)},
    "degree": {"table": AND, "field": terms(AND), "width": 2, "bits": [0, 1, 1, 1]},
    "learning": {"table": AND, "width": 3, "few": 2, "words": [0, 1, 2, 4], "most": 2},
    "trees": {"width": 3, "paper": TREE, "tree": TREE, "word": 5, "table": VOTE, "chosen": 6},
    "qualities": {"table": ~AND, "place": 1, "share": (1, 3), "width": 3},
    "counts": {"width": 2, "table": AND, "measure": "turns", "value": 4},
    "votes": {"order": "cab", "bits": [0, 1, 1], "orders": ["abc", "bca", "cab"], "width": 3, "first": VOTE, "second": VOTE, "third": VOTE, "voters": 2},
    "changes": {"field": scores(AND), "word": 3, "bit": 1},
    "scripts": {"line": "paper f break 10 01", "pieces": ["drop", "f"], "source": "drop f\ntest f"},
    "audit": {"lines": LINES, "rows": ROWS, "first": run(LINES), "second": run(LINES[:2]), "book": run(LINES), "source": "\n".join(LINES)},
}
OWN_VALUES = {
    "parse_word": {"text": "001"}, "parse_set": {"text": "0,3"}, "parse_ratio": {"text": "-4/6"}, "spread": {"word": 5},
    "widened": {"chosen": 9}, "agreement": {"first": AND, "second": OTHER}, "scores_of_sum": {"first": AND, "second": OTHER},
    "table_of_scores": {"field": scores(AND)}, "beside_scores": {"first": AND, "second": OTHER}, "nested_scores": {"outer": AND, "inner": sum_table(2, 3)},
    "three_count": {"first": AND, "second": OTHER}, "three_count_by_scores": {"first": AND, "second": OTHER},
    "is_place_pairs": {"paper": place_pairs(AND)}, "is_core": {"paper": core(AND)},
    "is_learnt": {"paper": (*core(AND), place_pairs(AND))}, "ballot_of_words": {"first": 5, "second": 3, "third": 2},
    "is_ring_paper": {"paper": ring_paper(VOTE, VOTE, VOTE)},
}
JUDGES = (
    "is_sum_paper", "is_nearest_paper", "is_mend_log", "is_near_log", "is_place_pairs", "is_core", "is_learnt", "is_tree", "is_ring_paper",
    "nearest_from_paper",
)


def right_call(name, call):
    """Right arguments of the function of this file, by their names and in their order."""
    told = {**VALUES[name], **OWN_VALUES.get(call.__name__, {})}
    return {one: told.get(one) for one in inspect.signature(call).parameters}


class Whole(Promises):
    def check_kinds(self, value, where):
        self.assertIn(type(value), KINDS, where)
        if isinstance(value, (list, tuple)):
            for item in value:
                self.check_kinds(item, where)
        if isinstance(value, Table):
            self.check_kinds(value.bits, where)
            self.assertEqual({type(bit) for bit in value.bits}, {int}, where)

    def test_every_function(self):
        done = 0
        for name, functions in FUNCTIONS.items():
            module = importlib.import_module("bitshades." + name)
            for function, heading in functions.items():
                if "*" in heading:
                    continue
                call = getattr(module, function)
                good = right_call(name, call)
                with self.subTest(function):
                    if "asked" in good:
                        self.check_asking_call(call, good)
                    else:
                        self.check_one(call, good, function)
                done += 1
        self.assertEqual(done + 2, sum(len(functions) for functions in FUNCTIONS.values()))

    def check_one(self, call, good, function):
        if function in JUDGES:
            before = kinds(list(good.values()))
            result = call(**good)
            self.same(call(*good.values()), result)
            self.assertTrue(result)
            self.assertEqual(kinds(list(good.values())), before)
        else:
            self.check_calls(call, good)
            result = call(**good)
        self.check_kinds(result, function)
        self.assertTrue(function.startswith("is_") or function in ("breaks", "goes_up") or type(result) is not bool, function)

    def check_asking_call(self, call, good):
        named = {one: value for one, value in good.items() if one != "asked"}
        before = copy.deepcopy(named)
        one, two = Asked(AND), Asked(AND)
        first, second = call(one, *named.values()), call(**named, asked=two)
        self.same(first, second)
        self.same(one.log(), two.log())
        self.check_kinds(first, call.__name__)
        changed(first)
        self.same(call(one, **named), second)
        self.same(named, before)

    def test_functions_of_any_number_of_tables(self):
        self.same(str(beside(AND, Table(1, [0, 1]))), "3:00011110")
        self.same(composed(AND, OTHER, AND, width=2), Table(2, [0, 0, 0, 1]))
        self.same(composed(place_table(1, 0), OTHER, width=2), OTHER)
        self.check_kinds(beside(), "beside")

    def test_every_method_and_property(self):
        book, led, asked = run(LINES[:3]), Led(AND), Asked(AND, limit=9)
        trial = turn_trial(2, 1)
        calls = {
            ("Asked", "ask"): lambda: asked.ask(word=3), ("Asked", "log"): asked.log, ("Asked", "words_asked"): asked.words_asked,
            ("Asked", "fresh"): asked.fresh, ("Trial", "__call__"): lambda: trial(coin_row=2, asked=Asked(AND)),
            ("Led", "turn"): lambda: led.turn(word=2), ("Led", "undo"): led.undo, ("Led", "steps"): led.steps, ("Led", "twin"): led.twin,
            ("Book", "run"): lambda: book.run(line="shades f"), ("Book", "undo"): book.undo, ("Book", "rows"): book.rows,
            ("Book", "names"): book.names, ("Book", "table_of"): lambda: book.table_of(name="f"),
            ("Book", "papers_of"): lambda: book.papers_of(name="f"), ("Book", "twin"): book.twin,
            ("Book", "__len__"): lambda: len(book), ("Book", "__iter__"): lambda: list(book), ("Book", "__contains__"): lambda: "f" in book,
            ("Book", "__eq__"): lambda: book == run(LINES[:3]),
        }
        objects = {"Asked": asked, "Trial": trial, "Led": led, "Book": book}
        for classes in CLASSES.values():
            for made, parts in classes.items():
                for part, heading in parts.items():
                    if part != "__init__":
                        value = getattr(objects[made], part) if heading is None else calls[(made, part)]()
                        self.check_kinds(value, part)

    def test_properties_are_new_or_never_change(self):
        led, trial = Led(AND), pair_trial(2)
        asked = Asked(AND)
        before = [kinds(one) for one in (led, trial, asked, AND)]
        for value in (led.scores, led.steps(), asked.log(), asked.words_asked(), AND.signs(), list(AND)):
            changed(value)
        for value in (trial.asks, trial.verdict, AND.bits, led.table):
            self.assertIn(type(value), (tuple, Table))
        self.assertEqual([kinds(one) for one in (led, trial, asked, AND)], before)

    def test_arguments_are_copied(self):
        bits, masks = [0, 1], [1]
        asks = [(0, masks), [1, masks]]
        table, trial = Table(1, bits), Trial(1, 1, asks, AND)
        before = [kinds(table), kinds(trial)]
        for row in (bits, masks, asks):
            row.append(0)
            row.reverse()
        self.assertEqual([kinds(table), kinds(trial)], before)


if __name__ == "__main__":
    unittest.main()
