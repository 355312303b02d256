"""Points 42 to 44 and the interface of qualities.py."""

import unittest
from fractions import Fraction

from bitshades.asking import Asked
from bitshades.errors import OutOfRange, WrongKind, WrongSize
from bitshades.making import constant_table, drawn_table, early_table, most_table, place_table, product_table, sum_table
from bitshades.parting import with_turned_bit
from bitshades.qualities import (
    all_up,
    falling_share,
    falls,
    goes_up,
    nearest_own,
    nearest_products,
    noisy_share,
    noisy_share_by_scores,
    own_place,
    product_set,
    raised,
    raised_at,
    splits_count,
    up_distance,
)
from bitshades.tables import Table
from helping import Promises, place_faults, share_faults, table_faults, width_faults
from plainly import all_tables, flipped, hand_shades, number_of, odd_tables, ones_in, some_tables, told

AND = Table(2, [0, 0, 0, 1])
SHARES = ((0, 1), (0, 7), (1, 1), (3, 3), (1, 2), (5000, 10000), (1, 4), (2, 8), (1, 10000), (9999, 10000), (3, 10), (7, 9))


def hand_falls(table):
    found = []
    for word in range(len(table)):
        for place in range(table.width):
            if word // 2**place % 2 == 0 and table.bits[word] == 1 and table.bits[word + 2**place] == 0:
                found.append((word, place))
    return found


def unlike_bits(first, second):
    return len([1 for one, two in zip(first.bits, second.bits) if one != two])


def hand_raised(table, place):
    bits = []
    for word in range(len(table)):
        two = (table.bits[word], table.bits[flipped(word, place)])
        bits.append(max(two) if word // 2**place % 2 else min(two))
    return Table(table.width, bits)


class Falls(Promises):
    def test_values(self):
        for table in some_tables() + all_tables(3)[::3]:
            wanted = hand_falls(table)
            self.same(falls(table), wanted)
            self.same(goes_up(table), not wanted)
            edges = table.width * 2**table.width // 2
            self.same(falling_share(table), told(Fraction(len(wanted), edges)) if edges else (0, 1))

    def test_told_values(self):
        self.same(falls(~AND), [(1, 1), (2, 0)])
        self.same(falling_share(~AND), (1, 2))
        self.same(falls(AND), [])
        self.same(goes_up(AND), True)
        self.same(falling_share(sum_table(3, 7)), (1, 2))
        for bit in (0, 1):
            self.same(falls(Table(0, [bit])), [])
            self.same(goes_up(Table(0, [bit])), True)
            self.same(falling_share(Table(0, [bit])), (0, 1))
        for width in range(1, 7):
            self.same(falling_share(place_table(width, 0, 1)), (1, width))
            self.same(goes_up(most_table(width)), True)
            self.same(goes_up(~most_table(width)), False)

    def test_arguments(self):
        for function in (falls, goes_up, falling_share, raised, splits_count, own_place, product_set, nearest_products, nearest_own):
            for table in (Table(0, [1]), ~AND, drawn_table(6, 5)):
                self.check_function(function, {"table": table}, {"table": table_faults()})


class Raising(Promises):
    def test_values(self):
        for table in some_tables() + all_tables(3)[::3]:
            wanted = table
            for place in range(table.width):
                self.same(raised_at(table, place), hand_raised(table, place))
                wanted = hand_raised(wanted, place)
            self.same(raised(table), wanted)
            self.same(goes_up(raised(table)), True)
            self.assertEqual(raised(table).ones, sum(table.bits))
            self.assertLessEqual(unlike_bits(table, wanted), 2 * len(hand_falls(table)))

    def test_each_place_in_order(self):
        table = Table(2, [1, 0, 0, 0])
        self.same(raised_at(table, 0), Table(2, [0, 1, 0, 0]))
        self.same(raised_at(table, 1), Table(2, [0, 0, 1, 0]))
        self.same(raised(table), AND)
        table = Table(2, [1, 1, 1, 0])
        self.same(raised(table), Table(2, [0, 1, 1, 1]))
        table = Table(3, [1, 0, 0, 0, 0, 1, 0, 0])
        self.same(raised_at(raised_at(raised_at(table, 0), 1), 2), raised(table))
        other = raised_at(raised_at(raised_at(drawn_table(3, 8), 2), 1), 0)
        self.same(goes_up(other), True)
        self.same(raised(Table(0, [1])), Table(0, [1]))
        self.same(raised(AND), AND)

    def test_order_of_the_places_matters(self):
        unlike = []
        for table in all_tables(3):
            back = raised_at(raised_at(raised_at(table, 2), 1), 0)
            if back != raised(table):
                unlike.append(table)
        self.assertTrue(unlike)

    def test_arguments(self):
        for width in (1, 2, 6):
            faults = {"table": table_faults(), "place": place_faults(width)}
            self.check_function(raised_at, {"table": drawn_table(width, 5), "place": width - 1}, faults)
        for place in (0, 1, -1):
            self.refused(OutOfRange, "argument", "place", raised_at, Table(0, [0]), place)


class GoingUp(Promises):
    COUNTS = (2, 3, 6, 20, 168)

    def test_all_up(self):
        for width in range(4):
            wanted = sorted([table for table in all_tables(width) if not hand_falls(table)], key=number_of)
            self.same(all_up(width), wanted)
        for width, count in enumerate(self.COUNTS):
            tables = all_up(width)
            self.assertEqual(len(tables), count)
            numbers = [number_of(table) for table in tables]
            self.assertEqual(numbers, sorted(set(numbers)))
            self.assertTrue(all(not hand_falls(table) for table in tables))
        self.same([str(table) for table in all_up(1)], ["1:00", "1:01", "1:11"])
        self.same([str(table) for table in all_up(0)], ["0:0", "0:1"])

    def test_up_distance(self):
        for width in range(4):
            up = [table for table in all_tables(width) if not hand_falls(table)]
            for table in all_tables(width):
                self.same(up_distance(table), min(unlike_bits(table, other) for other in up))
        for table in odd_tables(4):
            wanted = min(unlike_bits(table, other) for other in all_up(4))
            self.same(up_distance(table), wanted)
            self.assertLessEqual(wanted, unlike_bits(table, raised(table)))
        self.same(up_distance(~AND), 1)
        self.same(up_distance(early_table(4, 8)), 8)
        self.same(up_distance(Table(0, [0])), 0)

    def test_arguments(self):
        wide = [(width, OutOfRange) for width in (5, 6)]
        for width in (0, 2, 4):
            self.check_function(all_up, {"width": width}, {"width": width_faults() + wide})
        wide = [(drawn_table(width, 1), WrongSize) for width in (5, 6)]
        for table in (Table(0, [1]), ~AND, drawn_table(4, 5)):
            self.check_function(up_distance, {"table": table}, {"table": table_faults() + wide})


class OwnPlaces(Promises):
    def test_own_places(self):
        for width in range(7):
            for place in range(width):
                for bit in (0, 1):
                    table = place_table(width, place, bit)
                    self.same(own_place(table), (place, bit))
                    self.same(nearest_own(table), (0, [(place, bit)]))
                    self.same(own_place(with_turned_bit(table, 2**width - 1)), (0, 1 - bit) if width == 0 else None)
        for table in some_tables():
            right = [(p, b) for p in range(table.width) for b in (0, 1) if place_table(table.width, p, b).bits == table.bits]
            self.same(own_place(table), right[0] if right else None)

    def test_nearest_own(self):
        for table in some_tables():
            rows = []
            for place in range(table.width):
                for bit in (0, 1):
                    wanted = [(word // 2**place + bit) % 2 for word in range(len(table))]
                    rows.append((unlike_bits(table, Table(table.width, wanted)), (place, bit)))
            least = min([count for count, _ in rows] + [99])
            right = (least, [pair for count, pair in rows if count == least])
            self.same(nearest_own(table), right if rows else None)

    def test_told_values(self):
        self.same(nearest_own(AND), (1, [(0, 0), (1, 0)]))
        self.same(nearest_own(sum_table(2, 3)), (2, [(0, 0), (0, 1), (1, 0), (1, 1)]))
        self.same(nearest_own(Table(0, [1])), None)
        self.same(own_place(Table(0, [1])), None)
        self.same(own_place(constant_table(3, 1)), None)
        self.same(own_place(Table(1, [1, 0])), (0, 1))


def hand_splits(table):
    found = 0
    for x in range(len(table)):
        for y in range(len(table)):
            both = sum(2**place for place in range(6) if x // 2**place % 2 and y // 2**place % 2)
            found += table.bits[both] != table.bits[x] * table.bits[y]
    return found


class Products(Promises):
    def test_product_sets(self):
        for width in range(7):
            for chosen in range(2**width):
                self.same(product_set(product_table(width, chosen)), chosen)
            self.same(product_set(constant_table(width, 1)), 0)
            self.same(product_set(constant_table(width, 0)), None)
        for table in some_tables():
            right = [chosen for chosen in range(len(table)) if product_table(table.width, chosen).bits == table.bits]
            self.same(product_set(table), right[0] if right else None)

    def test_nearest_products(self):
        for table in some_tables():
            counts = [unlike_bits(table, product_table(table.width, chosen)) for chosen in range(len(table))]
            right = [chosen for chosen, count in enumerate(counts) if count == min(counts)]
            self.same(nearest_products(table), (min(counts), right))
        self.same(nearest_products(Table(2, [0, 1, 1, 1])), (1, [0, 1, 2]))
        self.same(nearest_products(Table(0, [0])), (1, [0]))
        self.same(nearest_products(Table(0, [1])), (0, [0]))
        self.same(nearest_products(constant_table(2, 0)), (1, [3]))

    def test_splits(self):
        for table in some_tables():
            self.same(splits_count(table), hand_splits(table))
        for width in range(7):
            self.same(splits_count(constant_table(width, 0)), 0)
            self.same(splits_count(constant_table(width, 1)), 0)
            for chosen in range(2**width):
                self.same(splits_count(product_table(width, chosen)), 0)
        for width in range(4):
            for table in all_tables(width):
                free = splits_count(table) == 0
                self.assertEqual(free, product_set(table) is not None or table.ones == 0)
        self.same(splits_count(Table(1, [1, 0])), 2)


def hand_noisy(table, share):
    """The noisy share by the words of point 44."""
    noise = Fraction(*share)
    words = range(len(table))
    total = Fraction(0)
    for z in words:
        weight = noise ** ones_in(z) * (1 - noise) ** (table.width - ones_in(z))
        pairs = [1 for x in words for y in words if (table.bits[x] + table.bits[y]) % 2 != table.bits[x ^ y ^ z]]
        total += weight * len(pairs)
    return total / 4**table.width


class NoisyShares(Promises):
    def test_by_words(self):
        for table in some_tables(0, 3) + odd_tables(4)[-4:]:
            for share in SHARES[:: 1 if table.width < 3 else 4]:
                self.same(noisy_share(table, share), told(hand_noisy(table, share)))

    def test_by_scores(self):
        for table in some_tables():
            for share in SHARES:
                fading = 1 - 2 * Fraction(*share)
                cubes = [fading ** ones_in(chosen) * shade**3 for chosen, shade in enumerate(hand_shades(table))]
                wanted = told((1 - sum(cubes)) / 2)
                self.same(noisy_share_by_scores(table, share), wanted)
                if table.width <= 4:
                    self.same(noisy_share(table, share), wanted)

    def test_told_values(self):
        for width in range(1, 7):
            for share in SHARES:
                self.same(noisy_share_by_scores(place_table(width, width - 1), share), told(Fraction(*share)))
        self.same(noisy_share(place_table(3, 1), (3, 10)), (3, 10))
        self.same(noisy_share(AND, (0, 5)), (3, 8))
        self.same(noisy_share_by_scores(AND, (5000, 10000)), (7, 16))
        self.same(noisy_share(constant_table(4, 0), (1, 3)), (0, 1))
        self.same(noisy_share(constant_table(4, 1), (1, 3)), (1, 1))
        self.same(noisy_share(Table(0, [0]), (1, 10000)), (0, 1))
        self.same(noisy_share_by_scores(Table(0, [1]), (1, 10000)), (1, 1))

    def test_arguments(self):
        wide = [(drawn_table(width, 1), WrongSize) for width in (5, 6)]
        for table in (Table(0, [1]), AND, drawn_table(4, 5)):
            good, faults = {"table": table, "share": (2, 8)}, {"table": table_faults() + wide, "share": share_faults()}
            self.check_function(noisy_share, good, faults)
        for table in (Table(0, [1]), AND, drawn_table(6, 5)):
            good, faults = {"table": table, "share": (2, 8)}, {"table": table_faults(), "share": share_faults()}
            self.check_function(noisy_share_by_scores, good, faults)
        self.refused(WrongSize, "argument", "table", noisy_share, drawn_table(5), (1, 10001))
        self.refused(WrongKind, "argument", "table", noisy_share_by_scores, Asked(AND), (1, 2))


if __name__ == "__main__":
    unittest.main()
