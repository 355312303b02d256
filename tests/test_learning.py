"""Points 37 to 40 and the interface of learning.py."""

import unittest

from bitshades.asking import Asked
from bitshades.errors import NotATable, Spent, TooFewPlaces, WrongKind
from bitshades.learning import (
    core,
    counting_places,
    counting_places_by_scores,
    covering_words,
    degree_words,
    is_core,
    is_covering,
    is_learnt,
    is_place_pairs,
    learn_degree,
    learn_few,
    place_pairs,
)
from bitshades.making import constant_table, drawn_table, most_table, product_table, sum_table
from bitshades.parting import widened
from bitshades.tables import Table
from helping import HUGE, Promises, changed, integer_faults, row_faults, table_faults, width_faults, word_faults
from plainly import (
    all_tables,
    counting,
    flipped,
    gathered,
    hand_scores,
    ones_in,
    places_in,
    sets_of_size,
    some_rows,
    some_tables,
    turning,
)

AND = Table(2, [0, 0, 0, 1])


def set_of(places):
    return sum(2**place for place in places)


def wide_tables():
    """Tables of few places in wider ones."""
    tables = []
    for width, chosen in ((3, 5), (4, 9), (4, 6), (5, 20), (6, 33), (6, 12)):
        for table in (AND, sum_table(2, 3), Table(2, [1, 1, 0, 1]), Table(2, [0, 1, 0, 1])):
            tables.append(widened(table, width, chosen))
    tables += [widened(most_table(3), 6, 42), widened(drawn_table(3, 9), 6, 49), widened(drawn_table(4, 5), 6, 30)]
    return tables


def tables_to_try():
    return some_tables() + wide_tables() + all_tables(3)[::17]


def hand_core(table):
    chosen = set_of(counting(table))
    bits = {gathered(chosen, word): bit for word, bit in enumerate(table.bits)}
    return (chosen, Table(ones_in(chosen), [bits[part] for part in range(len(bits))]))


def hand_is_pairs(table, places, paper):
    """Whether the paper is a list of one turning pair for each of the places, from the words of point 37."""
    if type(paper) is not list or len(paper) != len(places):
        return False
    for pair in paper:
        if type(pair) is not tuple or len(pair) != 2 or {type(item) for item in pair} != {int}:
            return False
        place, word = pair
        if place not in range(table.width) or word not in range(len(table)) or word not in turning(table, place):
            return False
    return {place for place, _ in paper} == set(places)


def hand_is_core(table, paper):
    chosen, part = hand_core(table)
    if type(paper) is not tuple or len(paper) != 2 or type(paper[0]) is not int or not isinstance(paper[1], Table):
        return False
    return paper[0] == chosen and paper[1].bits == part.bits


def hand_is_learnt(table, few, paper):
    if type(paper) is not tuple or len(paper) != 3 or type(paper[0]) is not int or not isinstance(paper[1], Table):
        return False
    chosen, part, pairs = paper
    if chosen not in range(len(table)) or ones_in(chosen) > min(few, table.width) or part.width != ones_in(chosen):
        return False
    if [part.bits[gathered(chosen, word)] for word in range(len(table))] != list(table.bits):
        return False
    return hand_is_pairs(table, places_in(chosen), pairs)


class Counting(Promises):
    def test_values(self):
        for table in tables_to_try():
            wanted = set_of(counting(table))
            self.same(counting_places(table), wanted)
            self.same(counting_places_by_scores(table), wanted)
            union = set()
            for chosen, item in enumerate(hand_scores(table)):
                union |= set(places_in(chosen)) if item else set()
            self.assertEqual(sorted(union), places_in(wanted))
            self.same(place_pairs(table), [(place, turning(table, place)[0]) for place in counting(table)])
            self.same(core(table), hand_core(table))
            self.same(widened(core(table)[1], table.width, core(table)[0]), table)

    def test_all_tables_of_width_3(self):
        for table in all_tables(3):
            self.same(counting_places(table), counting_places_by_scores(table))
            self.same(counting_places(table), set_of(counting(table)))

    def test_told_values(self):
        for width in range(7):
            for bit in (0, 1):
                table = constant_table(width, bit)
                self.same(counting_places(table), 0)
                self.same(place_pairs(table), [])
                self.same(core(table), (0, Table(0, [bit])))
            for chosen in range(2**width):
                self.same(counting_places(sum_table(width, chosen)), chosen)
                self.same(counting_places_by_scores(product_table(width, chosen)), chosen)
                self.same(core(product_table(width, chosen))[1], product_table(ones_in(chosen), 2 ** ones_in(chosen) - 1))
        self.same(place_pairs(AND), [(0, 2), (1, 1)])
        self.same(place_pairs(widened(AND, 4, 10)), [(1, 8), (3, 2)])
        self.same(core(widened(AND, 4, 10)), (10, AND))

    def test_arguments(self):
        for function in (counting_places, counting_places_by_scores, place_pairs, core):
            for table in (Table(0, [1]), AND, widened(AND, 6, 9)):
                self.check_function(function, {"table": table}, {"table": table_faults()})


class Judges(Promises):
    TABLES = (Table(0, [0]), Table(0, [1]), Table(1, [0, 1]), Table(1, [1, 1]), AND, Table(2, [0, 1, 0, 1]), widened(AND, 3, 5))

    def test_place_pairs(self):
        for table in self.TABLES + (most_table(3),):
            places = counting(table)
            right = [place_pairs(table), place_pairs(table)[::-1], [(place, turning(table, place)[-1]) for place in places]]
            self.check_judge(is_place_pairs, [table], right, lambda paper: hand_is_pairs(table, places, paper))

    def test_place_pairs_with_one_thing_wrong(self):
        table = widened(AND, 3, 5)
        for paper in ([(0, 4)], [(0, 4), (2, 1), (2, 1)], [(0, 4), (0, 4)], [(0, 4), (2, 1), (1, 0)], [(0, 4), (1, 0)], []):
            self.same(is_place_pairs(table, paper), False)
        for pair in ((2, 0), (2, 2), (2, 8), (3, 1), (-1, 1), (2, -1), (2, HUGE), (HUGE, 1), (2, table), (table, 1), [2], (2,), (2, 1, 1)):
            self.same(is_place_pairs(table, [(0, 4), pair]), False)
            self.same(is_place_pairs(table, [pair, (0, 4)]), False)
        for pair in ((2, 1), (2, 3), (2, 7), (2, 5)):
            self.same(is_place_pairs(table, [(0, 6), pair]), True)
            self.same(is_place_pairs(table, [pair, (0, 7)]), True)

    def test_core(self):
        for table in self.TABLES:
            self.check_judge(is_core, [table], [core(table)], lambda paper: hand_is_core(table, paper))
        for paper in ((3, ~AND), (3, Table(3, [0] * 8)), (1, AND), (2, AND), (0, Table(0, [0])), (3, AND, AND), (AND, 3), (3, [0, 0, 0, 1])):
            self.same(is_core(AND, paper), False)
        wide = widened(AND, 3, 5)
        for paper in ((3, AND), (7, wide), (5, wide), (6, AND), (-3, AND), (13, AND), (HUGE, AND), (5, "2:0001"), (wide, AND)):
            self.same(is_core(wide, paper), False)
        self.same(is_core(wide, (5, Table.of_text("2:0001"))), True)

    def test_learnt(self):
        for table in self.TABLES:
            for few in range(4):
                right = [(*core(table), place_pairs(table)), (*core(table), place_pairs(table)[::-1])]
                if len(counting(table)) > few:
                    self.same(is_learnt(table, few, right[0]), False)
                    right = []
                self.check_judge(is_learnt, [table, few], right, lambda paper: hand_is_learnt(table, few, paper))

    def test_learnt_with_one_thing_wrong(self):
        table = widened(AND, 3, 5)
        pairs = [(0, 4), (2, 1)]
        self.same(is_learnt(table, 2, (5, AND, pairs)), True)
        self.same(is_learnt(table, 6, (5, AND, [(2, 3), (0, 6)])), True)
        self.same(is_learnt(table, 1, (5, AND, pairs)), False)
        self.same(is_learnt(table, 0, (5, AND, pairs)), False)
        for paper in ((7, table, pairs), (7, table, pairs + [(1, 0)]), (5, ~AND, pairs), (3, AND, pairs), (5, table, pairs)):
            self.same(is_learnt(table, 3, paper), False)
        for other in ([(0, 4)], pairs + pairs, pairs + [(1, 0)], [(0, 4), (2, 0)], tuple(pairs)[:1], [], None, table, 5):
            self.same(is_learnt(table, 3, (5, AND, other)), False)
        for chosen in (True, None, "5", table, [], -5, HUGE, (5,)):
            self.same(is_learnt(table, 3, (chosen, AND, pairs)), False)
        self.same(is_learnt(Table(1, [0, 1]), 1, (True, Table(1, [0, 1]), [(0, 2)])), False)
        self.same(is_learnt(Table(1, [0, 1]), 0, (True, Table(1, [0, 1]), [(0, 0)])), False)

    def test_arguments(self):
        for table in (Table(0, [1]), AND, widened(AND, 6, 9)):
            self.check_faults(is_place_pairs, {"table": table, "paper": []}, {"table": table_faults(), "paper": []})
            self.check_faults(is_core, {"table": table, "paper": (0, table)}, {"table": table_faults(), "paper": []})
            good = {"table": table, "few": 2, "paper": (*core(table), place_pairs(table))}
            self.check_faults(is_learnt, good, {"table": table_faults(), "few": integer_faults(0, 6), "paper": []})
            self.same(is_learnt(paper=good["paper"], few=2, table=table), True)
            self.same(is_core(paper=core(table), table=table), True)
            self.same(is_place_pairs(paper=place_pairs(table), table=table), True)


def hand_covering_words(width, few):
    """The covering words as point 38 finds them."""
    sets = sets_of_size(width, min(few, width))
    taken = []
    reached = {chosen: set() for chosen in sets}
    for word in range(2**width):
        if any(gathered(chosen, word) not in reached[chosen] for chosen in sets):
            taken.append(word)
            for chosen in sets:
                reached[chosen].add(gathered(chosen, word))
    return taken


def hand_is_covering(width, few, words):
    size = min(few, width)
    return all({gathered(chosen, word) for word in words} == set(range(2**size)) for chosen in sets_of_size(width, size))


class Covering(Promises):
    def test_words(self):
        for width in range(7):
            for few in range(7):
                wanted = [word for word in range(2**width) if ones_in(word) <= few]
                self.same(covering_words(width, few), wanted)
                self.same(degree_words(width, few), wanted)
                self.assertEqual(hand_covering_words(width, few), wanted)
            self.same(covering_words(width), covering_words(width, 1))
            self.same(covering_words(width, 0), [0])
            self.same(covering_words(width, 6), list(range(2**width)))

    def test_rows(self):
        for width in range(7):
            for few in range(7):
                words = covering_words(width, few)
                self.same(is_covering(width, few, words), True)
                self.same(is_covering(width, few, tuple(words[::-1])), True)
                self.same(is_covering(width, few, []), False)
                self.same(is_covering(width, few, ()), False)
                last = 2**width - 1
                rows = some_rows(width) + [words[:-1], words[1:], [last ^ word for word in words], words[: len(words) // 2]]
                for row in rows:
                    self.same(is_covering(width, few, row), hand_is_covering(width, few, row))

    def test_just_covering(self):
        self.same(is_covering(2, 2, [0, 1, 2, 3]), True)
        for word in range(4):
            self.same(is_covering(2, 2, [other for other in range(4) if other != word]), False)
        self.same(is_covering(6, 1, [0, 63]), True)
        self.same(is_covering(6, 1, [21, 42]), True)
        self.same(is_covering(6, 1, [0, 62]), False)
        self.same(is_covering(6, 0, [13]), True)
        self.same(is_covering(0, 6, [0]), True)
        even = [word for word in range(16) if ones_in(word) % 2 == 0]
        self.same(is_covering(4, 3, even), True)
        self.same(is_covering(4, 3, even[1:]), False)
        self.same(is_covering(4, 4, even), False)

    def test_arguments(self):
        few = {"few": integer_faults(0, 6)}
        for width in (0, 2, 6):
            self.check_function(covering_words, {"width": width, "few": 2}, {"width": width_faults(), **few})
            most = {"most": integer_faults(0, 6)}
            self.check_function(degree_words, {"width": width, "most": 2}, {"width": width_faults(), **most})
            words = [0, 2**width - 1, 0]
            faults = {"width": width_faults(), **few, "words": row_faults(words, 0, 64, word_faults(width))}
            self.check_function(is_covering, {"width": width, "few": 1, "words": words}, faults)
        self.same(covering_words(few=0, width=3), [0])
        self.refused(WrongKind, "argument", "words", is_covering, 2, 1, AND)
        self.refused(WrongKind, "argument", "words", is_covering, 2, 1, {0: 0})
        self.refused(WrongKind, "argument", "words", is_covering, 2, 1, [0, AND])


def hand_learn(table, few):
    """The result of learning few places, by the steps of point 39; or the places found, as a list."""
    words = hand_covering_words(table.width, few)
    found, pairs = [], []
    while True:
        chosen = set_of(found)
        unlike = []
        for at, b in enumerate(words):
            for a in words[:at]:
                if gathered(chosen, a) == gathered(chosen, b) and table.bits[a] != table.bits[b]:
                    unlike.append((a, b))
        if not unlike:
            break
        a, b = unlike[0]
        places = places_in(a ^ b)
        turned = [a]
        for place in places:
            turned.append(flipped(turned[-1], place))
        low, high = 0, len(places)
        while high - low > 1:
            middle = (low + high) // 2
            assert turned[middle] in words and turned[low] in words
            if table.bits[turned[middle]] == table.bits[turned[low]]:
                low = middle
            else:
                high = middle
        found.append(places[low])
        pairs.append((places[low], turned[low]))
        if len(found) > min(few, table.width):
            return sorted(found)
    bits = []
    for part in range(2 ** len(found)):
        bits.append([table.bits[word] for word in words if gathered(chosen, word) == part][0])
    return (chosen, Table(len(found), bits), pairs)


class LearnFew(Promises):
    def test_steps(self):
        for table in tables_to_try():
            for few in range(7):
                wanted = hand_learn(table, few)
                asked = Asked(table, limit=2**table.width)
                if isinstance(wanted, list):
                    self.refused(TooFewPlaces, "places_found", wanted, learn_few, asked, few)
                else:
                    self.same(learn_few(asked, few), wanted)
                self.same(asked.log(), hand_covering_words(table.width, few))
                self.check_result(table, few, wanted)

    def check_result(self, table, few, wanted):
        if isinstance(wanted, list):
            self.assertEqual(len(wanted), min(few, table.width) + 1)
            self.assertLessEqual(set(wanted), set(counting(table)))
        elif len(counting(table)) <= few:
            self.same(widened(wanted[1], table.width, wanted[0]), table)
            self.same(is_learnt(table, few, wanted), True)
            self.same(wanted[:2], core(table))
        else:
            made = widened(wanted[1], table.width, wanted[0])
            for word in hand_covering_words(table.width, few):
                self.assertEqual(made[word], table[word])

    def test_few_places(self):
        for table in wide_tables():
            for few in range(len(counting(table)), 7):
                asked = Asked(table)
                chosen, part, pairs = learn_few(asked, few)
                self.same((chosen, part), core(table))
                self.same(is_place_pairs(table, pairs), True)

    def test_told_values(self):
        self.same(learn_few(Asked(AND)), (0, Table(0, [0]), []))
        self.same(learn_few(Asked(AND), 2), (3, AND, [(1, 1), (0, 2)]))
        self.same(learn_few(Asked(Table(1, [0, 1]))), (1, Table(1, [0, 1]), [(0, 0)]))
        self.same(learn_few(Asked(Table(0, [1])), 6), (0, Table(0, [1]), []))
        self.refused(TooFewPlaces, "places_found", [0, 1], learn_few, Asked(sum_table(3, 7)), 1)
        self.refused(TooFewPlaces, "places_found", [0, 1], learn_few, Asked(sum_table(3, 7)))
        self.same(learn_few(Asked(sum_table(3, 7)), 0), (0, Table(0, [0]), []))

    def test_another_table_is_possible(self):
        table = product_table(6, 63)
        self.same(learn_few(Asked(table), 5), (0, Table(0, [0]), []))
        self.same(learn_few(Asked(table), 6)[:2], (63, table))

    def test_words_and_limits(self):
        for table, few in ((widened(AND, 4, 9), 2), (AND, 6), (Table(0, [1]), 3), (widened(sum_table(2, 3), 5, 10), 3)):
            self.check_asking(learn_few, table, {"few": few}, hand_covering_words(table.width, few))
        asked = Asked(widened(AND, 4, 9), limit=12)
        asked.ask(15)
        learn_few(asked, 2)
        self.refused(Spent, "allowed", 12, learn_few, asked, 2)
        self.same(asked.log(), [15] + hand_covering_words(4, 2))

    def test_limits_where_places_are_too_few(self):
        table = sum_table(4, 15)
        words = hand_covering_words(4, 2)
        for limit in range(len(words)):
            asked = Asked(table, limit=limit)
            self.refused(Spent, "allowed", limit, learn_few, asked, 2)
            self.same(asked.log(), words[:limit])
        asked = Asked(table, limit=len(words))
        self.refused(TooFewPlaces, "places_found", [0, 1, 2], learn_few, asked, 2)
        self.same(asked.log(), words)
        self.refused(Spent, "allowed", len(words), learn_few, asked, 2)
        self.same(asked.log(), words)

    def test_places_found_may_be_changed(self):
        for _ in range(2):
            with self.assertRaises(TooFewPlaces) as caught:
                learn_few(Asked(sum_table(3, 7)), 1)
            self.assertEqual(caught.exception.places_found, [0, 1])
            changed(caught.exception.places_found)

    def test_arguments(self):
        for width in (0, 2, 6):
            self.check_refusing(learn_few, drawn_table(width, 3), {"few": 1}, {"few": integer_faults(0, 6)})
        self.refused(WrongKind, "argument", "asked", learn_few, AND)
        self.refused(WrongKind, "argument", "asked", learn_few, AND, None)


def hand_learn_degree(table, most):
    """The table that point 40 tells, or None."""
    words = [word for word in range(len(table)) if ones_in(word) <= most]
    terms = {}
    for chosen in words:
        parts = [part for part in range(chosen + 1) if part & chosen == part]
        terms[chosen] = sum((-1) ** (ones_in(chosen) - ones_in(part)) * table.bits[part] for part in parts)
    sums = [sum(term for chosen, term in terms.items() if chosen & word == chosen) for word in range(len(table))]
    return Table(table.width, sums) if set(sums) <= {0, 1} else None


class LearnDegree(Promises):
    def test_values(self):
        for table in tables_to_try():
            top = max([ones_in(chosen) for chosen, item in enumerate(hand_scores(table)) if item] + [0])
            for most in range(7):
                wanted = hand_learn_degree(table, most)
                asked = Asked(table, limit=2**table.width)
                if wanted is None:
                    self.refused_as_no_table(asked, most)
                else:
                    self.same(learn_degree(asked, most), wanted)
                self.same(asked.log(), [word for word in range(len(table)) if ones_in(word) <= most])
                if top <= most:
                    self.same(wanted, table)

    def refused_as_no_table(self, asked, most):
        with self.assertRaises(NotATable) as caught:
            learn_degree(asked, most)
        self.assertIs(type(caught.exception), NotATable)
        self.assertEqual(vars(caught.exception), {})

    def test_told_values(self):
        self.same(learn_degree(Asked(AND), 1), Table(2, [0, 0, 0, 0]))
        self.same(learn_degree(Asked(AND), 2), AND)
        self.refused_as_no_table(Asked(sum_table(2, 3)), 1)
        self.same(learn_degree(Asked(sum_table(2, 3)), 0), Table(2, [0, 0, 0, 0]))
        self.same(learn_degree(asked=Asked(~AND), most=0), Table(2, [1, 1, 1, 1]))
        self.same(learn_degree(Asked(Table(3, [0, 1, 1, 1, 1, 1, 1, 0])), 2), Table(3, [0, 1, 1, 1, 1, 1, 1, 0]))

    def test_words_and_limits(self):
        for table, most in ((widened(AND, 4, 9), 2), (AND, 6), (Table(0, [1]), 3), (constant_table(5, 1), 1)):
            words = [word for word in range(len(table)) if ones_in(word) <= most]
            self.check_asking(learn_degree, table, {"most": most}, words)
        asked = Asked(sum_table(2, 3), limit=5)
        self.refused_as_no_table(asked, 1)
        self.same(asked.log(), [0, 1, 2])
        self.refused(Spent, "allowed", 5, learn_degree, asked, 1)
        self.same(asked.log(), [0, 1, 2, 0, 1])

    def test_arguments(self):
        for width in (0, 2, 6):
            self.check_refusing(learn_degree, drawn_table(width, 3), {"most": 1}, {"most": integer_faults(0, 6)})
        self.refused(WrongKind, "argument", "asked", learn_degree, AND, 9)


if __name__ == "__main__":
    unittest.main()
