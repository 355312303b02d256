"""Points 11 to 15 and the interface of words.py."""

import unittest
from itertools import combinations, permutations

from bitshades import words as module
from bitshades.errors import OutOfRange, WrongKind, WrongSize
from bitshades.words import (
    MOST_WIDTH,
    across,
    add_words,
    all_words,
    beginning,
    bit_at,
    bits_of_word,
    gather,
    is_within,
    parity,
    places_of_set,
    reorder,
    rest_of,
    set_of_places,
    size_of,
    span,
    spread,
    subsets,
    turn_bit,
    word_count,
    word_of_bits,
    words_of_size,
)
from helping import HUGE, Promises, integer_faults, place_faults, row_faults, width_faults, word_faults

WIDTHS = range(7)
PAIRED = range(5)


def digits(width, word):
    """The bits of the word, read from its binary digits."""
    return [int(digit) for digit in reversed(format(word, "b").zfill(width))][:width]


def number(bits):
    """The word with these bits."""
    return sum(2**place for place, bit in enumerate(bits) if bit)


class SingleWords(Promises):
    def test_most_width(self):
        self.same(MOST_WIDTH, 6)
        self.assertIn("MOST_WIDTH", vars(module))

    def test_word_count_and_all_words(self):
        for width in WIDTHS:
            self.same(word_count(width), 2**width)
            self.same(all_words(width), list(range(2**width)))
        self.same(all_words(0), [0])
        for function in (word_count, all_words):
            self.check_function(function, {"width": 3}, {"width": width_faults()})

    def test_bits(self):
        for width in WIDTHS:
            for word in range(2**width):
                bits = digits(width, word)
                self.same(bits_of_word(width, word), bits)
                self.same(word_of_bits(bits), word)
                self.same(word_of_bits(tuple(bits)), word)
                self.same(size_of(width, word), sum(bits))
                self.same(rest_of(width, word), number([1 - bit for bit in bits]))
                self.same(places_of_set(width, word), [place for place in range(width) if bits[place]])
                for place in range(width):
                    self.same(bit_at(width, word, place), bits[place])
                    turned = bits[:place] + [1 - bits[place]] + bits[place + 1 :]
                    self.same(turn_bit(width, word, place), number(turned))

    def test_edges(self):
        self.same(bits_of_word(0, 0), [])
        self.same(word_of_bits([]), 0)
        self.same(rest_of(0, 0), 0)
        self.same(rest_of(6, 0), 63)
        self.same(rest_of(6, 63), 0)
        self.same(places_of_set(6, 63), [0, 1, 2, 3, 4, 5])
        self.same(places_of_set(6, 0), [])
        self.same(word_of_bits([0, 0, 0, 0, 0, 1]), 32)

    def test_place_at_width_0(self):
        for function in (bit_at, turn_bit):
            for place in (0, 1, -1, HUGE):
                self.refused(OutOfRange, "argument", "place", function, 0, 0, place)
            self.refused(WrongKind, "argument", "place", function, 0, 0, False)

    def test_arguments(self):
        for width in (0, 3, 6):
            word = {"width": width, "word": 0}
            chosen = {"width": width, "chosen": 2**width - 1}
            faults = {"width": width_faults(), "word": word_faults(width)}
            self.check_function(size_of, word, faults)
            self.check_function(bits_of_word, word, faults)
            faults = {"width": width_faults(), "chosen": word_faults(width)}
            for function in (places_of_set, rest_of, subsets):
                self.check_function(function, chosen, faults)
        for width in (1, 3, 6):
            good = {"width": width, "word": 1, "place": width - 1}
            faults = {"width": width_faults(), "word": word_faults(width), "place": place_faults(width)}
            self.check_function(bit_at, good, faults)
            self.check_function(turn_bit, good, faults)

    def test_word_of_bits_arguments(self):
        for row in ([], [1], [0, 1, 1], [1] * 6):
            faults = {"bits": row_faults(row, 0, 6, integer_faults(0, 1))}
            self.check_function(word_of_bits, {"bits": row}, faults)


class TwoWords(Promises):
    def test_sum_parity_within(self):
        for width in WIDTHS:
            for first in range(2**width):
                for second in range(2**width):
                    a, b = digits(width, first), digits(width, second)
                    self.same(add_words(width, first, second), number([(x + y) % 2 for x, y in zip(a, b)]))
                    self.same(parity(width, first, second), sum(x * y for x, y in zip(a, b)) % 2)
                    self.same(is_within(width, first, second), all(x <= y for x, y in zip(a, b)))

    def test_parity_of_the_empty_set(self):
        self.assertEqual([parity(6, 0, word) for word in range(64)], [0] * 64)

    def test_arguments(self):
        for width in (0, 2, 6):
            good = {"width": width, "first": 2**width - 1, "second": 0}
            faults = {"width": width_faults(), "first": word_faults(width), "second": word_faults(width)}
            self.check_function(add_words, good, faults)
            self.check_function(is_within, good, faults)
            good = {"width": width, "chosen": 0, "word": 2**width - 1}
            faults = {"width": width_faults(), "chosen": word_faults(width), "word": word_faults(width)}
            self.check_function(parity, good, faults)
            self.check_function(gather, good, faults)


class Sets(Promises):
    def test_set_of_places(self):
        for width in WIDTHS:
            for count in range(width + 1):
                for places in combinations(range(width), count):
                    wanted = sum(2**place for place in places)
                    self.same(set_of_places(width, list(places)), wanted)
                    self.same(set_of_places(width, places[::-1]), wanted)

    def test_set_of_places_in_any_order(self):
        for places in permutations(range(4), 3):
            self.same(set_of_places(4, places), sum(2**place for place in places))

    def test_set_of_places_arguments(self):
        for width, places in ((0, []), (1, [0]), (3, [2, 0]), (3, [1, 2, 0]), (6, [5, 4, 3, 2, 1, 0])):
            faults = {"width": width_faults(), "places": row_faults(places, 0, width, place_faults(width))}
            self.check_function(set_of_places, {"width": width, "places": places}, faults)

    def test_a_place_that_stands_twice(self):
        for places in ([0, 0], [1, 0, 1], (2, 2, 0), [0, 1, 1], [0, 0, None], [1, 1, 7]):
            self.refused(OutOfRange, "argument", "places", set_of_places, 3, places)
            self.refused(OutOfRange, "argument", "order", reorder, 3, 5, (list(places) + [2])[:3])
        self.refused(WrongKind, "argument", "places", set_of_places, 3, [0, True, 0])
        self.refused(WrongKind, "argument", "places", set_of_places, 3, [0, None, 0])
        self.refused(WrongSize, "argument", "places", set_of_places, 3, [0, 0, 0, 0])
        self.refused(WrongSize, "argument", "places", set_of_places, 3, [None, None, None, None])

    def test_subsets(self):
        for width in WIDTHS:
            for chosen in range(2**width):
                places = [place for place in range(width) if digits(width, chosen)[place]]
                found = []
                for count in range(len(places) + 1):
                    found += [sum(2**place for place in part) for part in combinations(places, count)]
                self.same(subsets(width, chosen), sorted(found))

    def test_words_of_size(self):
        for width in WIDTHS:
            for size in range(width + 1):
                wanted = [word for word in range(2**width) if format(word, "b").count("1") == size]
                self.same(words_of_size(width, size), wanted)
        for width in (0, 1, 6):
            faults = {"width": width_faults(), "size": integer_faults(0, width)}
            self.check_function(words_of_size, {"width": width, "size": width}, faults)

    def test_beginning(self):
        for width in WIDTHS:
            for word in range(2**width):
                for count in range(width + 1):
                    bits = digits(width, word)
                    self.same(beginning(width, word, count), number(bits[:count] + [0] * (width - count)))
                self.same(beginning(width, word, 0), 0)
                self.same(beginning(width, word, width), word)
        for width in (0, 2, 6):
            good = {"width": width, "word": 2**width - 1, "count": width}
            faults = {"width": width_faults(), "word": word_faults(width), "count": integer_faults(0, width)}
            self.check_function(beginning, good, faults)


class GatherAndSpread(Promises):
    def test_examples(self):
        self.same(gather(3, 5, 4), 2)
        self.same(spread(3, 5, 2), 4)

    def test_against_the_words(self):
        for width in WIDTHS:
            for chosen in range(2**width):
                places = [place for place in range(width) if digits(width, chosen)[place]]
                for word in range(2**width):
                    self.same(gather(width, chosen, word), number([digits(width, word)[place] for place in places]))
                for word in range(2 ** len(places)):
                    bits = [0] * width
                    for index, place in enumerate(places):
                        bits[place] = digits(len(places), word)[index]
                    self.same(spread(width, chosen, word), number(bits))
                    self.same(gather(width, chosen, spread(width, chosen, word)), word)

    def test_spread_arguments(self):
        for width, chosen, size in ((0, 0, 0), (3, 5, 2), (3, 0, 0), (6, 63, 6), (6, 42, 3)):
            good = {"width": width, "chosen": chosen, "word": 2**size - 1}
            faults = {"width": width_faults(), "chosen": word_faults(width), "word": word_faults(size)}
            self.check_function(spread, good, faults)

    def test_reorder(self):
        for width in PAIRED:
            for order in permutations(range(width)):
                for word in range(2**width):
                    bits = digits(width, word)
                    self.same(reorder(width, word, order), number([bits[place] for place in order]))
                    self.same(reorder(width, word, list(order)), number([bits[place] for place in order]))
        self.same(reorder(6, 1, [5, 0, 1, 2, 3, 4]), 2)
        self.same(reorder(6, 32, [5, 0, 1, 2, 3, 4]), 1)

    def test_reorder_arguments(self):
        for width, order in ((0, []), (1, [0]), (3, [2, 0, 1]), (6, [5, 4, 3, 2, 1, 0])):
            good = {"width": width, "word": 2**width - 1, "order": order}
            order_faults = row_faults(order, width, width, place_faults(width))
            faults = {"width": width_faults(), "word": word_faults(width), "order": order_faults}
            self.check_function(reorder, good, faults)

    def test_reorder_of_a_wrong_length(self):
        self.refused(WrongSize, "argument", "order", reorder, 3, 0, [0, 1])
        self.refused(WrongSize, "argument", "order", reorder, 3, 0, [0, 1, 2, 3])
        self.refused(WrongSize, "argument", "order", reorder, 3, 0, [0, 0])
        self.refused(WrongSize, "argument", "order", reorder, 0, 0, [0])


def all_sums(words):
    """All sums of any number of the words."""
    sums = set()
    for count in range(len(words) + 1):
        for part in combinations(words, count):
            total = 0
            for word in part:
                total ^= word
            sums.add(total)
    return sorted(sums)


class SpanAndAcross(Promises):
    ROWS = (
        (0, []), (0, [0]), (0, [0] * 64), (1, []), (1, [1]), (3, []), (3, [0]), (3, [5]), (3, [5, 3]), (3, [3, 5, 6]),
        (3, [5, 5, 5]), (4, [8, 1, 8, 2]), (6, []), (6, [63]), (6, [1, 2, 4, 8, 16, 32]), (6, [33, 12, 45, 7, 7]),
        (6, [32, 48, 56, 60]),
    )

    def test_rows(self):
        for width, row in self.ROWS:
            wanted = all_sums(row[:10])
            self.same(span(width, row), wanted)
            self.same(span(width, tuple(row)), wanted)
            sets = [
                chosen
                for chosen in range(2**width)
                if all(format(chosen & word, "b").count("1") % 2 == 0 for word in row)
            ]
            self.same(across(width, row), sets)
            self.same(across(width, tuple(row)), sets)
            self.assertEqual(len(wanted) * len(sets), 2**width)

    def test_all_pairs_of_words(self):
        for first in range(16):
            for second in range(16):
                self.same(span(4, [first, second]), sorted({0, first, second, first ^ second}))

    def test_sixty_four_words(self):
        self.same(span(6, list(range(64))), list(range(64)))
        self.same(across(6, list(range(64))), [0])
        self.same(span(6, [9] * 64), [0, 9])
        self.same(span(6, list(range(63, -1, -1))), list(range(64)))

    def test_no_words(self):
        for width in WIDTHS:
            self.same(span(width, []), [0])
            self.same(across(width, []), list(range(2**width)))

    def test_arguments(self):
        for width, row in ((0, [0, 0]), (3, [5, 7]), (6, [63, 0])):
            faults = {"width": width_faults(), "words": row_faults(row, 0, 64, word_faults(width))}
            for function in (span, across):
                self.check_function(function, {"width": width, "words": row}, faults)


if __name__ == "__main__":
    unittest.main()
