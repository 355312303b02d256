"""The interface: where each name is defined, its parameters, and their defaults; and points 5 and 8."""

import ast
import importlib
import inspect
import os
import unittest

from bitshades.errors import ShadeError
from bitshades.tables import Table

FOLDER = os.path.join(os.path.dirname(os.path.dirname(os.path.abspath(__file__))), "bitshades")

ERRORS = (
    "WrongKind", "WrongSize", "OutOfRange", "BadText", "NotATable", "Spent", "TooFewPlaces", "WrongPaper",
    "UnknownName", "NameTaken", "NothingToUndo", "BookFull",
)

FUNCTIONS = {
    "ratios": {
        "ratio": "(top, bottom)", "ratio_sum": "(first, second)", "ratio_difference": "(first, second)",
        "ratio_product": "(first, second)", "ratio_quotient": "(first, second)", "ratio_power": "(base, exponent)",
        "compare_ratios": "(first, second)", "sum_of": "(fractions)", "mean_of": "(fractions)",
        "whole_part": "(fraction)",
    },
    "words": {
        "word_count": "(width)", "all_words": "(width)", "bit_at": "(width, word, place)",
        "turn_bit": "(width, word, place)", "add_words": "(width, first, second)", "size_of": "(width, word)",
        "parity": "(width, chosen, word)", "word_of_bits": "(bits)", "bits_of_word": "(width, word)",
        "set_of_places": "(width, places)", "places_of_set": "(width, chosen)", "rest_of": "(width, chosen)",
        "beginning": "(width, word, count)", "is_within": "(width, first, second)", "subsets": "(width, chosen)",
        "words_of_size": "(width, size)", "gather": "(width, chosen, word)", "spread": "(width, chosen, word)",
        "reorder": "(width, word, order)", "span": "(width, words)", "across": "(width, words)",
    },
    "notation": {
        "format_word": "(width, word)", "parse_word": "(text)", "format_set": "(width, chosen)",
        "parse_set": "(width, text)", "format_ratio": "(fraction)", "parse_ratio": "(text)",
    },
    "making": {
        "constant_table": "(width, bit)", "sum_table": "(width, chosen)", "place_table": "(width, place, bit=0)",
        "product_table": "(width, chosen)", "most_table": "(width)", "size_table": "(bits)",
        "weighted_table": "(weights, bound)", "table_of_words": "(width, words)", "early_table": "(width, count)",
        "drawn_table": "(width, seed=0)",
    },
    "parting": {
        "shifted": "(table, word)", "reordered": "(table, order)", "fixed": "(table, chosen, values)",
        "widened": "(table, width, chosen)", "beside": "(*tables)", "composed": "(outer, *inners, width)",
        "nested": "(outer, inner)", "with_turned_bit": "(table, word)", "difference_table": "(table, place)",
    },
    "shades": {
        "field_width": "(field)", "score": "(table, chosen)", "plain_scores": "(table)", "scores": "(table)",
        "quick_step": "(field, place)", "quick_field": "(field)", "shade": "(table, chosen)", "shades": "(table)",
        "field_back": "(field)", "is_scores": "(field)", "table_of_scores": "(field)", "weight_of": "(table, sets)",
        "level_weights": "(table)", "low_scores": "(table)", "heavy": "(table, threshold=(1, 4))",
    },
    "products": {
        "inner_product": "(first, second)", "folding": "(first, second)", "quick_folding": "(first, second)",
        "agreement": "(first, second)", "scores_of_sum": "(first, second)", "shifted_scores": "(table, word)",
        "reordered_scores": "(table, order)", "fixed_scores": "(table, chosen, values)",
        "beside_scores": "(first, second)", "nested_scores": "(outer, inner)", "span_mean": "(table, words)",
        "span_mean_by_shades": "(table, words)",
    },
    "pairs": {
        "breaks": "(table, first, second)", "breaking_row": "(table)", "breaking_count": "(table)",
        "breaking_count_by_scores": "(table)", "breaking_share": "(table)", "first_breaking_pair": "(table)",
        "breaking_among": "(table, pairs)", "three_count": "(first, second, third)",
        "three_count_by_scores": "(first, second, third)", "span_breaking_share": "(table, words)",
        "span_breaking_share_by_shades": "(table, words)", "quad_count": "(table)", "quad_count_by_scores": "(table)",
        "sum_paper": "(table)", "is_sum_paper": "(table, paper)",
    },
    "nearest": {
        "unlike": "(first, second)", "distance": "(first, second)", "distances": "(table)", "nearest": "(table)",
        "sum_distance": "(table)", "unique_nearest": "(table)", "turned_nearest": "(table)",
        "sums_within": "(table, share)", "nearest_paper": "(table)", "is_nearest_paper": "(table, paper)",
        "nearest_from_paper": "(table, paper)",
    },
    "mending": {
        "votes_at": "(table, word)", "margin": "(table, word)", "margins": "(table)", "margins_by_scores": "(table)",
        "mended": "(table)", "mended_times": "(table, rounds=1)", "even_words": "(table)", "mend_log": "(table)",
        "is_mend_log": "(table, log)",
    },
    "asking": {
        "ask_all": "(asked)", "told_votes": "(asked, word, words)", "asked_words": "(trial, coin_row)",
        "refusing_count": "(trial, table)", "refusing_share": "(trial, table)", "first_refusal": "(trial, table)",
        "passing_share": "(trial, table, times=1)", "pair_trial": "(width)", "alike_trial": "(width)",
        "turn_trial": "(width, place)", "spot_trial": "(width, word, bit)",
    },
    "seeking": {
        "weight_behind": "(table, count, start)", "weight_by_pairs": "(table, count, start)",
        "kept_bound": "(threshold)", "near_log": "(table, threshold)", "near_sets": "(table, threshold)",
        "near_within": "(table, share)", "is_near_log": "(table, threshold, log)", "sample_words": "(width, samples)",
        "sampled_weight": "(asked, count, start, samples)", "sampled_log": "(asked, cut, samples)",
        "sampled_sets": "(asked, cut, samples)", "greatest_error": "(table, cut, samples)",
    },
    "influence": {
        "turning_words": "(table, place)", "influence": "(table, place)", "influence_by_scores": "(table, place)",
        "influences": "(table)", "total_influence": "(table)", "most_influential": "(table)",
        "least_influential": "(table)", "variance": "(table)", "sway": "(table, chosen)",
        "tables_with_influences": "(wanted)",
    },
    "noise": {
        "noise_weight": "(width, word, share)", "noise_values": "(table, share)",
        "noise_values_by_shades": "(table, share)", "noise_step": "(values, place, share)",
        "noise_spread": "(values, share)", "noise_shades": "(table, share)", "stability": "(table, share)",
        "stability_by_shades": "(table, share)", "turn_share": "(table, share)", "joined_noise": "(first, second)",
    },
    "degree": {
        "degree": "(table)", "degree_by_terms": "(table)", "terms": "(table)", "table_of_terms": "(field)",
        "bit_terms": "(table)", "table_of_bit_terms": "(width, bits)", "bit_degree": "(table)", "grain": "(table)",
        "field_degree": "(field)", "power_sums": "(field)",
    },
    "learning": {
        "counting_places": "(table)", "counting_places_by_scores": "(table)", "place_pairs": "(table)",
        "is_place_pairs": "(table, paper)", "core": "(table)", "is_core": "(table, paper)",
        "covering_words": "(width, few=1)", "is_covering": "(width, few, words)", "learn_few": "(asked, few=1)",
        "is_learnt": "(table, few, paper)", "degree_words": "(width, most)", "learn_degree": "(asked, most)",
    },
    "trees": {
        "is_tree": "(width, paper)", "tree_table": "(width, tree)", "follow": "(width, tree, word)",
        "tree_depth": "(width, tree)", "leaf_count": "(width, tree)", "asking_shares": "(width, tree)",
        "tree_scores": "(width, tree)", "plain_tree": "(table)", "best_tree": "(table)", "least_depth": "(table)",
        "least_certificate": "(table, word)", "certificate_sizes": "(table)",
        "is_certificate": "(table, word, chosen)", "sensitivity": "(table, word)",
    },
    "qualities": {
        "falls": "(table)", "goes_up": "(table)", "falling_share": "(table)", "raised_at": "(table, place)",
        "raised": "(table)", "own_place": "(table)", "product_set": "(table)", "splits_count": "(table)",
        "noisy_share": "(table, share)", "noisy_share_by_scores": "(table, share)", "all_up": "(width)",
        "up_distance": "(table)", "nearest_products": "(table)", "nearest_own": "(table)",
    },
    "counts": {
        "all_tables": "(width)", "measure_of": "(table, measure)", "tally": "(width, measure)",
        "tables_like": "(table)", "tables_where": "(width, measure, value)",
    },
    "votes": {
        "order_bits": "(order)", "order_of_bits": "(bits)", "ballot_words": "(orders)",
        "ballot_of_words": "(width, first, second, third)", "outcome": "(first, second, third, orders)",
        "all_ballots": "(voters)", "ring_count": "(first, second, third)", "ring_share": "(first, second, third)",
        "outcome_counts": "(first, second, third)", "first_ring": "(first, second, third)",
        "ring_share_by_shades": "(first, second, third)", "ring_paper": "(first, second, third)",
        "is_ring_paper": "(first, second, third, paper)",
    },
    "changes": {"led_scores": "(field, word, bit)"},
    "scripts": {"parse_line": "(line)", "format_line": "(pieces)", "parse_script": "(source)"},
    "book": {},
    "audit": {
        "replay": "(lines)", "audit": "(rows)", "first_difference": "(first, second)", "book_text": "(book)",
        "book_of_text": "(source)",
    },
}

TABLE_METHODS = (
    "__init__", "of_text", "of_number", "sign", "signs", "__len__", "__getitem__", "__iter__", "__eq__", "__add__",
    "__and__", "__invert__", "__str__", "width", "bits", "ones", "number",
)

# The methods of each class beside Table, and behind them its properties.
CLASSES = {
    "asking": {
        "Asked": {
            "__init__": "(self, table, *, limit=None)", "ask": "(self, word)", "log": "(self)",
            "words_asked": "(self)", "fresh": "(self)", "width": None, "limit": None, "asks": None,
        },
        "Trial": {
            "__init__": "(self, width, coins, asks, verdict)", "__call__": "(self, asked, coin_row)", "width": None,
            "coins": None, "asks": None, "verdict": None,
        },
    },
    "changes": {
        "Led": {
            "__init__": "(self, table)", "turn": "(self, word)", "undo": "(self)", "steps": "(self)",
            "twin": "(self)", "table": None, "scores": None, "breaking": None,
        },
    },
    "book": {
        "Book": {
            "__init__": "(self)", "run": "(self, line)", "undo": "(self)", "rows": "(self)", "names": "(self)",
            "table_of": "(self, name)", "papers_of": "(self, name)", "twin": "(self)", "__len__": "(self)",
            "__iter__": "(self)", "__contains__": "(self, x)", "__eq__": "(self, other)",
        },
    },
}


def tree_of(name):
    with open(os.path.join(FOLDER, name + ".py"), encoding="utf-8") as file:
        return ast.parse(file.read())


class Names(unittest.TestCase):
    def test_functions(self):
        for name, functions in FUNCTIONS.items():
            module = importlib.import_module("bitshades." + name)
            defined = [node.name for node in tree_of(name).body if isinstance(node, ast.FunctionDef)]
            for function, heading in functions.items():
                with self.subTest(function):
                    self.assertIn(function, defined)
                    self.assertEqual(str(inspect.signature(getattr(module, function))), heading)

    def test_classes(self):
        errors = importlib.import_module("bitshades.errors")
        defined = [node.name for node in tree_of("errors").body if isinstance(node, ast.ClassDef)]
        self.assertEqual(sorted(defined), sorted(ERRORS + ("ShadeError",)))
        for name in ERRORS:
            self.assertTrue(issubclass(getattr(errors, name), ShadeError))
        defined = [node.name for node in tree_of("tables").body if isinstance(node, ast.ClassDef)]
        self.assertEqual(defined, ["Table"])

    def test_constant(self):
        words = importlib.import_module("bitshades.words")
        self.assertIs(type(words.MOST_WIDTH), int)
        self.assertEqual(words.MOST_WIDTH, 6)

    def test_table(self):
        self.assertEqual(Table.__bases__, (object,))
        for name in TABLE_METHODS:
            self.assertIn(name, vars(Table))
        for name in ("width", "bits", "ones", "number"):
            self.assertIsInstance(vars(Table)[name], property)
        for name in ("of_text", "of_number"):
            self.assertIsInstance(vars(Table)[name], classmethod)
        self.assertEqual(str(inspect.signature(Table)), "(width, bits)")
        self.assertEqual(str(inspect.signature(Table.of_text)), "(text)")
        self.assertEqual(str(inspect.signature(Table.of_number)), "(width, number)")
        self.assertEqual(str(inspect.signature(Table.sign)), "(self, word)")
        self.assertEqual(str(inspect.signature(Table.signs)), "(self)")

    def test_other_classes(self):
        for name, classes in CLASSES.items():
            module = importlib.import_module("bitshades." + name)
            defined = [node.name for node in tree_of(name).body if isinstance(node, ast.ClassDef)]
            self.assertEqual(defined, list(classes))
            for made, parts in classes.items():
                self.assertEqual(getattr(module, made).__bases__, (object,))
                for part, heading in parts.items():
                    found = vars(getattr(module, made))[part]
                    if heading is None:
                        self.assertIsInstance(found, property)
                    else:
                        self.assertEqual(str(inspect.signature(found)), heading)

    def test_constants_of_texts(self):
        counts = importlib.import_module("bitshades.counts")
        self.assertEqual(counts.MEASURES, ("ones", "unlike", "breaking", "turns", "degree", "falls"))
        votes = importlib.import_module("bitshades.votes")
        self.assertEqual(votes.ORDERS, ("abc", "acb", "bac", "bca", "cab", "cba"))
        self.assertIs(type(counts.MEASURES), tuple)
        self.assertIs(type(votes.ORDERS), tuple)

    def test_class_methods_of_an_object(self):
        self.assertEqual(Table(0, [0]).of_text("1:01"), Table(1, [0, 1]))
        self.assertEqual(Table(0, [0]).of_number(1, 2), Table(1, [0, 1]))


if __name__ == "__main__":
    unittest.main()
