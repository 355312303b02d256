"""Points 20 and 33 and the interface of parting.py."""

import unittest
from itertools import permutations, product

from bitshades.errors import OutOfRange, WrongKind, WrongSize
from bitshades.making import drawn_table
from bitshades.parting import (
    beside,
    composed,
    difference_table,
    fixed,
    nested,
    reordered,
    shifted,
    widened,
    with_turned_bit,
)
from bitshades.tables import Table
from helping import (
    HUGE,
    NO_TABLES,
    Promises,
    place_faults,
    row_faults,
    table_faults,
    width_faults,
    word_faults,
)


def digits(width, word):
    """The bits of the word, the one at place 0 first."""
    return [word // 2**place % 2 for place in range(width)]


def number(bits):
    """The word with these bits."""
    return sum(2**place * bit for place, bit in enumerate(bits))


def places_in(width, chosen):
    return [place for place in range(width) if digits(width, chosen)[place]]


def mixed(width, seed=1):
    """A table without a visible order."""
    return drawn_table(width, 977 * seed + width)


def small_tables(widest=2):
    for width in range(widest + 1):
        for bits in product((0, 1), repeat=2**width):
            yield Table(width, bits)


class Shifted(Promises):
    def test_values(self):
        for width in range(7):
            table = mixed(width)
            for word in range(2**width):
                wanted = []
                for x in range(2**width):
                    summed = [(a + b) % 2 for a, b in zip(digits(width, x), digits(width, word))]
                    wanted.append(table.bits[number(summed)])
                self.same(shifted(table, word), Table(width, wanted))
            self.same(shifted(table, 0), table)

    def test_arguments(self):
        for width in (0, 2, 6):
            faults = {"table": table_faults(), "word": word_faults(width)}
            self.check_function(shifted, {"table": mixed(width), "word": 2**width - 1}, faults)


class Reordered(Promises):
    def test_values(self):
        for width in range(5):
            table = mixed(width, 3)
            for order in permutations(range(width)):
                wanted = []
                for x in range(2**width):
                    wanted.append(table.bits[number([digits(width, x)[place] for place in order])])
                self.same(reordered(table, order), Table(width, wanted))
                self.same(reordered(table, list(order)), Table(width, wanted))

    def test_widest(self):
        table = mixed(6)
        order = [5, 3, 1, 0, 2, 4]
        wanted = [table.bits[number([digits(6, x)[place] for place in order])] for x in range(64)]
        self.same(reordered(table, order), Table(6, wanted))
        self.same(reordered(table, [0, 1, 2, 3, 4, 5]), table)

    def test_one_way_of_two(self):
        self.same(reordered(Table.of_number(3, 2), [1, 2, 0]), Table.of_number(3, 4))

    def test_arguments(self):
        for width, order in ((0, []), (1, [0]), (3, [2, 0, 1]), (6, [5, 4, 3, 2, 1, 0])):
            faults = {"table": table_faults(), "order": row_faults(order, width, width, place_faults(width))}
            self.check_function(reordered, {"table": mixed(width), "order": order}, faults)

    def test_a_place_that_stands_twice(self):
        for order in ([0, 0, 1], [2, 1, 2], (1, 1, 1)):
            self.refused(OutOfRange, "argument", "order", reordered, mixed(3), order)
        self.refused(OutOfRange, "argument", "order", reordered, mixed(3), [0, 0, None])
        self.refused(WrongKind, "argument", "order", reordered, mixed(3), [None, 0, 0])
        self.refused(WrongSize, "argument", "order", reordered, mixed(3), [0, 0])


class Fixed(Promises):
    def test_values(self):
        for width in range(6):
            table = mixed(width, 2)
            for chosen in range(2**width):
                inside = places_in(width, chosen)
                outside = [place for place in range(width) if place not in inside]
                for values in range(2 ** len(inside)):
                    wanted = []
                    for z in range(2 ** len(outside)):
                        bits = [0] * width
                        for index, place in enumerate(inside):
                            bits[place] = digits(len(inside), values)[index]
                        for index, place in enumerate(outside):
                            bits[place] = digits(len(outside), z)[index]
                        wanted.append(table.bits[number(bits)])
                    self.same(fixed(table, chosen, values), Table(len(outside), wanted))

    def test_edges(self):
        table = mixed(6)
        self.same(fixed(table, 0, 0), table)
        for word in range(64):
            self.same(fixed(table, 63, word), Table(0, [table.bits[word]]))
        self.same(fixed(Table(0, [1]), 0, 0), Table(0, [1]))
        self.same(fixed(table, 32, 1), Table(5, table.bits[32:]))
        self.same(fixed(table, 1, 0), Table(5, table.bits[::2]))

    def test_arguments(self):
        for width, chosen, size in ((0, 0, 0), (3, 5, 2), (3, 0, 0), (6, 63, 6)):
            good = {"table": mixed(width), "chosen": chosen, "values": 2**size - 1}
            faults = {"table": table_faults(), "chosen": word_faults(width), "values": word_faults(size)}
            self.check_function(fixed, good, faults)


class Widened(Promises):
    def test_values(self):
        for width in range(7):
            for chosen in range(2**width):
                places = places_in(width, chosen)
                table = mixed(len(places))
                wanted = []
                for x in range(2**width):
                    wanted.append(table.bits[number([digits(width, x)[place] for place in places])])
                self.same(widened(table, width, chosen), Table(width, wanted))

    def test_size_of_the_set(self):
        for width in range(7):
            for chosen in range(2**width):
                for narrow in range(7):
                    if narrow != len(places_in(width, chosen)):
                        self.refused(OutOfRange, "argument", "chosen", widened, mixed(narrow), width, chosen)

    def test_arguments(self):
        for narrow, width, chosen in ((0, 0, 0), (2, 3, 5), (0, 6, 0), (3, 3, 7)):
            good = {"table": mixed(narrow), "width": width, "chosen": chosen}
            faults = {"table": table_faults(), "width": width_faults(), "chosen": word_faults(width)}
            self.check_function(widened, good, faults)

    def test_a_lesser_width_is_not_refused_by_itself(self):
        self.refused(WrongKind, "argument", "chosen", widened, mixed(4), 2, None)
        self.refused(OutOfRange, "argument", "chosen", widened, mixed(4), 2, 3)


class Beside(Promises):
    def check_tables(self, tables):
        width = sum(table.width for table in tables)
        wanted = []
        for word in range(2**width):
            bits, total = digits(width, word), 0
            for table in tables:
                total += table.bits[number(bits[: table.width])]
                bits = bits[table.width :]
            wanted.append(total % 2)
        self.same(beside(*tables), Table(width, wanted))

    def test_values(self):
        self.same(beside(), Table(0, [0]))
        tables = list(small_tables(1)) + [mixed(2), mixed(3)]
        for count in range(4):
            for row in product(tables, repeat=count):
                if sum(table.width for table in row) <= 6:
                    self.check_tables(row)
        self.check_tables([mixed(1, seed) for seed in range(6)])
        self.check_tables([mixed(0, seed) for seed in range(6)])
        self.check_tables([mixed(6)])
        self.check_tables([mixed(0, 4), mixed(2), mixed(0, 2), mixed(4)])

    def test_one_table(self):
        for table in small_tables():
            self.same(beside(table), table)

    def test_first_table_is_lowest(self):
        self.same(beside(Table(1, [0, 1]), Table(0, [0])), Table(1, [0, 1]))
        self.same(str(beside(Table(1, [0, 1]), Table(1, [0, 0]))), "2:0101")
        self.same(str(beside(Table(1, [0, 0]), Table(1, [0, 1]))), "2:0011")

    def test_order_of_errors(self):
        empty = Table(0, [0])
        self.refused(WrongSize, "argument", "tables", beside, *[empty] * 7)
        self.refused(WrongSize, "argument", "tables", beside, *[None] * 7)
        self.refused(WrongSize, "argument", "tables", beside, *[mixed(1)] * 8)
        self.same(beside(*[empty] * 6), empty)
        self.refused(WrongSize, "argument", "tables", beside, mixed(6), mixed(1))
        self.refused(WrongSize, "argument", "tables", beside, mixed(3), mixed(4))
        self.refused(WrongKind, "argument", "tables", beside, mixed(6), mixed(1), None)
        for value in NO_TABLES:
            self.refused(WrongKind, "argument", "tables", beside, value)
            self.refused(WrongKind, "argument", "tables", beside, mixed(6), mixed(6), value)
            self.refused(WrongKind, "argument", "tables", beside, value, mixed(6), mixed(6))

    def test_a_row_of_tables_is_no_table(self):
        self.refused(WrongKind, "argument", "tables", beside, [mixed(1), mixed(1)])


class Composed(Promises):
    def check_tables(self, outer, inners, width):
        wanted = []
        for word in range(2**width):
            wanted.append(outer.bits[number([inner.bits[word] for inner in inners])])
        self.same(composed(outer, *inners, width=width), Table(width, wanted))

    def test_values(self):
        for outer in small_tables(2):
            for width in range(2):
                inners = [Table(width, bits) for bits in product((0, 1), repeat=2**width)]
                for row in product(inners, repeat=outer.width):
                    self.check_tables(outer, row, width)
        for count in range(7):
            for width in (0, 2, 6):
                self.check_tables(mixed(count, 4), [mixed(width, seed) for seed in range(count)], width)

    def test_outer_table_of_width_0(self):
        for width in range(7):
            self.same(composed(Table(0, [1]), width=width), Table(width, [1] * 2**width))
            self.same(composed(Table(0, [0]), width=width), Table(width, [0] * 2**width))

    def test_order_of_errors(self):
        outer, inner = mixed(2), mixed(3)
        for value in NO_TABLES:
            self.refused(WrongKind, "argument", "outer", composed, value, inner, inner, width=3)
            self.refused(WrongKind, "argument", "outer", composed, value, None, width=None)
            self.refused(WrongKind, "argument", "inners", composed, outer, value, inner, width=3)
            self.refused(WrongKind, "argument", "inners", composed, outer, inner, value, width=3)
            self.refused(WrongKind, "argument", "inners", composed, outer, value, mixed(2), width=3)
            self.refused(WrongSize, "argument", "inners", composed, outer, mixed(2), value, width=3)
            self.refused(WrongSize, "argument", "inners", composed, outer, value, width=3)
        for value, error in width_faults():
            self.refused(error, "argument", "width", composed, outer, inner, inner, width=value)
            self.refused(error, "argument", "width", composed, outer, width=value)
            self.refused(error, "argument", "width", composed, outer, None, 5, width=value)

    def test_number_of_inner_tables(self):
        inner = mixed(3)
        for count in range(7):
            for given in range(8):
                if given != count:
                    self.refused(WrongSize, "argument", "inners", composed, mixed(count), *[inner] * given, width=3)

    def test_width_of_inner_tables(self):
        for width in range(7):
            for other in range(7):
                if other != width:
                    wrong, right = mixed(other), mixed(width)
                    self.refused(WrongSize, "argument", "inners", composed, mixed(2), wrong, right, width=width)
                    self.refused(WrongSize, "argument", "inners", composed, mixed(2), right, wrong, width=width)

    def test_width_by_name_alone(self):
        with self.assertRaises(TypeError):
            composed(mixed(1), mixed(2))


class Nested(Promises):
    def check_tables(self, outer, inner):
        width = outer.width * inner.width
        wanted = []
        for word in range(2**width):
            bits = digits(width, word)
            answers = []
            for block in range(outer.width):
                part = bits[block * inner.width : (block + 1) * inner.width]
                answers.append(inner.bits[number(part)])
            wanted.append(outer.bits[number(answers)])
        self.same(nested(outer, inner), Table(width, wanted))

    def test_values(self):
        for outer in small_tables():
            for inner in small_tables():
                self.check_tables(outer, inner)
        for outer in range(7):
            for inner in range(7):
                if outer * inner <= 6:
                    for seed in range(6):
                        self.check_tables(mixed(outer, seed), mixed(inner, seed + 2))

    def test_width_0(self):
        for bit in (0, 1):
            for inner in range(7):
                self.same(nested(Table(0, [bit]), mixed(inner)), Table(0, [bit]))
        for outer in range(7):
            table = mixed(outer, 5)
            self.same(nested(table, Table(0, [0])), Table(0, [table.bits[0]]))
            self.same(nested(table, Table(0, [1])), Table(0, [table.bits[-1]]))

    def test_product_of_widths(self):
        for outer in range(7):
            for inner in range(7):
                if outer * inner > 6:
                    self.refused(WrongSize, "argument", "inner", nested, mixed(outer), mixed(inner))

    def test_arguments(self):
        faults = {"outer": table_faults(), "inner": table_faults() + [(mixed(3), WrongSize), (mixed(6), WrongSize)]}
        self.check_function(nested, {"outer": mixed(3), "inner": mixed(2)}, faults)


class TurnedBit(Promises):
    def test_values(self):
        for width in range(7):
            table = mixed(width)
            for word in range(2**width):
                bits = list(table.bits)
                bits[word] = 1 - bits[word]
                self.same(with_turned_bit(table, word), Table(width, bits))
            self.same(table, mixed(width))

    def test_arguments(self):
        for width in (0, 2, 6):
            faults = {"table": table_faults(), "word": word_faults(width)}
            self.check_function(with_turned_bit, {"table": mixed(width), "word": 2**width - 1}, faults)


class Difference(Promises):
    def test_values(self):
        for width in range(1, 7):
            for seed in range(4):
                table = mixed(width, seed)
                for place in range(width):
                    wanted = []
                    for word in range(2**width):
                        bits = digits(width, word)
                        bits[place] = 1 - bits[place]
                        wanted.append(int(table.bits[word] != table.bits[number(bits)]))
                    self.same(difference_table(table, place), Table(width, wanted))

    def test_arguments(self):
        for width in (1, 3, 6):
            faults = {"table": table_faults(), "place": place_faults(width)}
            self.check_function(difference_table, {"table": mixed(width), "place": width - 1}, faults)

    def test_width_0(self):
        for place in (0, 1, -1, HUGE):
            self.refused(OutOfRange, "argument", "place", difference_table, mixed(0), place)
        self.refused(WrongKind, "argument", "place", difference_table, mixed(0), None)


if __name__ == "__main__":
    unittest.main()
