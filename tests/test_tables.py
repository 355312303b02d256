"""Points 16 to 19 and the interface of tables.py."""

import re
import unittest
from itertools import product

from bitshades.errors import OutOfRange, ShadeError, WrongKind, WrongSize
from bitshades.tables import Table
from helping import (
    HUGE,
    NO_INTEGERS,
    Promises,
    integer_faults,
    row_faults,
    text_faults,
    width_faults,
    word_faults,
)
from test_notation import fault_position


def some_bits(width, seed):
    """Bits that look unlike one another for each seed."""
    return [(seed * 7919 + (word + 3) * (word + seed) * 104729) // 11 % 2 for word in range(2**width)]


def some_tables():
    """Tables of all widths: all small ones, and constant, single-bit and mixed ones of the others."""
    for width in range(3):
        for bits in product((0, 1), repeat=2**width):
            yield Table(width, bits)
    for width in range(3, 7):
        rows = [[0] * 2**width, [1] * 2**width] + [some_bits(width, seed) for seed in range(4)]
        for place in (0, 1, 2**width - 1):
            rows.append([int(word == place) for word in range(2**width)])
        for bits in rows:
            yield Table(width, bits)


def number_of(bits):
    return sum(2**word for word, bit in enumerate(bits) if bit)


def text_of(width, bits):
    return f"{width}:" + "".join("01"[bit] for bit in bits)


class Making(Promises):
    def test_each_width(self):
        for width in range(7):
            for bits in ([0] * 2**width, [1] * 2**width, some_bits(width, 3)):
                for row in (bits, tuple(bits)):
                    table = Table(width, row)
                    self.same(table.width, width)
                    self.same(table.bits, tuple(bits))
                    self.same(len(table), 2**width)
                    self.same(table.ones, bits.count(1))
                    self.same(table.number, number_of(bits))
                    self.same(str(table), text_of(width, bits))
                    self.same(list(table), bits)

    def test_three_ways(self):
        for table in some_tables():
            self.same(Table(table.width, table.bits), table)
            self.same(Table.of_text(str(table)), table)
            self.same(Table.of_number(table.width, table.number), table)
            self.assertEqual(Table.of_text(str(table)), table)
            self.assertEqual(Table.of_number(table.width, table.number), table)

    def test_number(self):
        for width in range(3):
            for number in range(2 ** 2**width):
                table = Table.of_number(width, number)
                self.same(table.number, number)
                self.same(list(table.bits), [int(digit) for digit in format(number, "b").zfill(2**width)[::-1]])
        self.same(Table.of_number(6, 2**64 - 1).bits, (1,) * 64)
        self.same(Table.of_number(6, 2**63).bits, (0,) * 63 + (1,))
        self.same(Table.of_number(0, 1).bits, (1,))

    def test_arguments(self):
        for width in (0, 1, 2, 6):
            bits = some_bits(width, 5)
            if width == 6:
                bits_faults = row_faults(bits[:62], 64, 64, []) + [
                    (bits[:63] + [2], OutOfRange), (bits[:63] + [None], WrongKind), ([2] + bits[1:], OutOfRange),
                    ([True] + bits[1:], WrongKind), ([-1, "1"] + bits[2:], OutOfRange), (["1", -1] + bits[2:], WrongKind),
                ]
            else:
                bits_faults = row_faults(bits, 2**width, 2**width, integer_faults(0, 1))
            good = {"width": width, "bits": bits}
            self.check_function(Table, good, {"width": width_faults(), "bits": bits_faults})

    def test_length_of_another_width(self):
        self.refused(WrongSize, "argument", "bits", Table, 2, [0, 1])
        self.refused(WrongSize, "argument", "bits", Table, 0, [])
        self.refused(WrongSize, "argument", "bits", Table, 1, [None, None, None])

    def test_of_number_arguments(self):
        for width in (0, 1, 3, 6):
            good = {"width": width, "number": 2 ** 2**width - 1}
            faults = {"width": width_faults(), "number": integer_faults(0, 2 ** 2**width - 1)}
            self.check_function(Table.of_number, good, faults)

    def test_changing_a_row_afterwards(self):
        bits = [0, 1, 1, 0]
        table = Table(2, bits)
        bits[0] = 1
        bits.append(1)
        self.same(table.bits, (0, 1, 1, 0))
        self.same(str(table), "2:0110")

    def test_returned_lists_are_new(self):
        table = Table(2, [0, 1, 1, 0])
        signs = table.signs()
        signs.clear()
        self.same(table.signs(), [1, -1, -1, 1])
        items = list(table)
        items.append(7)
        self.same(table.bits, (0, 1, 1, 0))


class Texts(Promises):
    BEGUN = re.compile(r"|[0-6]|0:[01]{0,1}|1:[01]{0,2}|2:[01]{0,4}|3:[01]{0,8}|4:[01]{0,16}|5:[01]{0,32}|6:[01]{0,64}")

    def check_text(self, text):
        if text[:1] in tuple("0123456") and re.fullmatch("[0-6]:[01]*", text) and len(text) == 2 + 2 ** int(text[0]):
            table = Table.of_text(text)
            self.same(str(table), text)
            self.same(table, Table(int(text[0]), [int(character) for character in text[2:]]))
        else:
            position = fault_position(text, lambda part: self.BEGUN.fullmatch(part) is not None)
            self.bad_text(position, Table.of_text, text)

    def test_short_texts(self):
        for length in range(5):
            for letters in product("0127:-", repeat=length):
                self.check_text("".join(letters))

    def test_cut_wrong_and_longer_texts(self):
        for width in range(7):
            text = text_of(width, some_bits(width, 2))
            self.check_text(text)
            for index in range(len(text)):
                self.check_text(text[:index])
                for wrong in ("2", ":", " ", "x", "-", "7", "\n"):
                    self.check_text(text[:index] + wrong + text[index + 1 :])
                    self.check_text(text[:index] + wrong)
            for more in ("0", "1", " ", "\n", ":"):
                self.check_text(text + more)
                self.check_text(more + text)

    def test_told_positions(self):
        told = {
            "": 0, "7:0": 0, "8": 0, "x": 0, ":": 0, "-": 0, "2": 1, "20": 1, "2;0001": 1, "2:": 2, "2:00": 4,
            "2:0002": 5, "2:00011": 6, "0:": 2, "0:00": 3, "1:0 ": 3, "1:2": 2, "-1:00": 0, " 0:0": 0, "6": 1, "6:": 2,
            "02:0001": 1, "9:": 0,
        }
        for text, position in told.items():
            self.bad_text(position, Table.of_text, text)

    def test_two_hundred_characters(self):
        self.bad_text(66, Table.of_text, "6:" + "0" * 198)
        self.bad_text(0, Table.of_text, "x" * 200)
        self.refused(WrongSize, "argument", "text", Table.of_text, "6:" + "0" * 199)

    def test_arguments(self):
        self.check_function(Table.of_text, {"text": "2:0110"}, {"text": text_faults()})


class Reading(Promises):
    def test_items_and_signs(self):
        for table in some_tables():
            for word in range(2**table.width):
                self.same(table[word], table.bits[word])
                self.same(table.sign(word), -1 if table.bits[word] else 1)
            self.same(table.signs(), [-1 if bit else 1 for bit in table.bits])

    def test_no_word(self):
        for table in (Table(0, [1]), Table(2, [0, 1, 1, 1]), Table(6, [0] * 64)):
            count = len(table)
            for word in (-1, -count, count, count + 1, HUGE, -HUGE):
                self.refused(OutOfRange, "argument", "word", table.__getitem__, word)
                with self.assertRaises(OutOfRange):
                    table[word]
            for value in NO_INTEGERS + (slice(None), slice(0, 1), (0,), (0, 1)):
                self.refused(WrongKind, "argument", "word", table.__getitem__, value)
                with self.assertRaises(WrongKind):
                    table[value]
            with self.assertRaises(WrongKind):
                table[0:1]
            with self.assertRaises(WrongKind):
                table[0, 1]

    def test_sign_arguments(self):
        for width in (0, 2, 6):
            table = Table(width, some_bits(width, 1))
            self.check_function(table.sign, {"word": 2**width - 1}, {"word": word_faults(width)})

    def test_iteration(self):
        table = Table(2, [0, 1, 1, 0])
        self.same([bit for bit in table], [0, 1, 1, 0])
        self.same([bit for bit in table], [0, 1, 1, 0])
        self.assertEqual([(a, b) for a in table for b in table][:5], [(0, 0), (0, 1), (0, 1), (0, 0), (1, 0)])

    def test_length(self):
        self.same(len(Table(0, [0])), 1)
        self.same(len(Table(6, [0] * 64)), 64)


class Equality(Promises):
    def test_tables(self):
        tables = list(some_tables())
        for first in tables:
            for second in tables:
                equal = first.width == second.width and first.bits == second.bits
                self.same(first == second, equal)
                self.same(first != second, not equal)

    def test_equal_but_not_the_same_object(self):
        self.same(Table(2, [0, 1, 1, 0]) == Table(2, (0, 1, 1, 0)), True)
        self.same(Table(2, [0, 1, 1, 0]) != Table(2, (0, 1, 1, 0)), False)
        self.same(Table(1, [0, 0]) == Table(0, [0]), False)
        self.same(Table(1, [0, 0]) == Table(2, [0, 0, 0, 0]), False)

    def test_other_values(self):
        table = Table(1, [0, 1])
        values = (
            None, True, False, 0, 1, 2, "1:01", b"1:01", 1.0, [0, 1], (0, 1), (1, (0, 1)), {}, {0, 1}, ShadeError("x"),
            OutOfRange("bits"), Table, slice(0, 1), range(2), object(),
        )
        for value in values:
            self.same(table == value, False)
            self.same(table != value, True)


class Operators(Promises):
    def test_sum_and_product(self):
        tables = list(some_tables())
        for first in tables:
            for second in tables:
                if first.width == second.width:
                    pairs = list(zip(first.bits, second.bits))
                    self.same(first + second, Table(first.width, [(a + b) % 2 for a, b in pairs]))
                    self.same(first & second, Table(first.width, [a * b for a, b in pairs]))

    def test_turned(self):
        self.same(str(~Table(1, [0, 1])), "1:10")
        for table in some_tables():
            self.same(~table, Table(table.width, [1 - bit for bit in table.bits]))

    def test_operands_stay(self):
        first, second = Table(1, [0, 1]), Table(1, [1, 1])
        first + second
        first & second
        ~first
        self.same((first, second), (Table(1, [0, 1]), Table(1, [1, 1])))

    def test_unlike_widths(self):
        for left in range(7):
            for right in range(7):
                if left != right:
                    first, second = Table(left, [0] * 2**left), Table(right, [1] * 2**right)
                    self.refused(WrongSize, "argument", "other", lambda: first + second)
                    self.refused(WrongSize, "argument", "other", lambda: first & second)


class NoRow(Promises):
    def test_a_table_is_no_row(self):
        self.refused(WrongKind, "argument", "bits", Table, 1, Table(1, [0, 1]))


if __name__ == "__main__":
    unittest.main()
