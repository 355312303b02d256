"""Points 28 and 29 and the interface of asking.py."""

import unittest
from fractions import Fraction

from bitshades.asking import (
    Asked,
    Trial,
    alike_trial,
    ask_all,
    asked_words,
    first_refusal,
    pair_trial,
    passing_share,
    refusing_count,
    refusing_share,
    spot_trial,
    told_votes,
    turn_trial,
)
from bitshades.errors import OutOfRange, Spent, WrongKind, WrongSize
from bitshades.making import constant_table, drawn_table, place_table, sum_table
from bitshades.pairs import breaking_count, breaking_share, first_breaking_pair
from bitshades.tables import Table
from helping import (
    HUGE,
    NO_ASKED,
    NO_INTEGERS,
    NO_ROWS,
    NO_TRIALS,
    Promises,
    integer_faults,
    kind_faults,
    kinds,
    place_faults,
    row_faults,
    table_faults,
    width_faults,
    word_faults,
)
from plainly import odd_tables, ones_in, some_rows, some_tables, told

AND = Table(2, [0, 0, 0, 1])


class AskedObjects(Promises):
    def test_count_log_and_words(self):
        for table in some_tables():
            asked = Asked(table)
            log = []
            words = [(5 * index * index + 3) % len(table) for index in range(40)] + [0, 0]
            for word in words:
                self.same(asked.ask(word), table.bits[word])
                log.append(word)
                self.same(asked.asks, len(log))
                self.same(asked.log(), log)
                self.same(asked.words_asked(), sorted(set(log)))
            self.same(asked.width, table.width)
            self.same(asked.limit, None)

    def test_new_object(self):
        asked = Asked(AND, limit=3)
        self.same(asked.width, 2)
        self.same(asked.limit, 3)
        self.same(asked.asks, 0)
        self.same(asked.log(), [])
        self.same(asked.words_asked(), [])
        self.same(Asked(table=AND).limit, None)
        self.same(Asked(AND, limit=None).limit, None)

    def test_limits(self):
        for limit in (0, 1, 2, 3, 7, 10000):
            asked = Asked(AND, limit=limit)
            for index in range(limit):
                self.same(asked.ask(word=index % 4), AND.bits[index % 4])
            for word in (0, 3, 2):
                self.refused(Spent, "allowed", limit, asked.ask, word)
            self.same(asked.asks, limit)
            self.same(asked.log(), [index % 4 for index in range(limit)])
            self.same(asked.limit, limit)
            self.same(asked.words_asked(), list(range(min(limit, 4))))

    def test_no_limit(self):
        asked = Asked(AND)
        for _ in range(10001):
            asked.ask(3)
        self.same(asked.asks, 10001)
        self.same(asked.words_asked(), [3])

    def test_bad_words_are_not_counted(self):
        for width in (0, 2, 6):
            for limit in (None, 1):
                asked = Asked(drawn_table(width, 4), limit=limit)
                for done in (0, 1):
                    for value, error in word_faults(width):
                        self.refused(error, "argument", "word", asked.ask, value)
                        self.refused(error, "argument", "word", asked.ask, word=value)
                    self.same(asked.asks, done)
                    if done == 0:
                        asked.ask(0)
            self.refused(Spent, "allowed", 1, asked.ask, 0)

    def test_only_a_read_bit_is_an_ask(self):
        asked = Asked(AND, limit=2)
        asked.ask(3)
        for _ in range(3):
            self.same(asked.log(), [3])
            self.same(asked.words_asked(), [3])
            self.same((asked.asks, asked.limit, asked.width), (1, 2, 2))
            asked.fresh()
        asked.ask(1)
        self.same(asked.log(), [3, 1])
        self.same(asked.words_asked(), [1, 3])

    def test_fresh(self):
        for limit in (None, 0, 2):
            asked = Asked(AND, limit=limit)
            if limit != 0:
                asked.ask(3)
            before = asked.log()
            other = asked.fresh()
            self.assertIsInstance(other, Asked)
            self.assertIsNot(other, asked)
            self.same(other.asks, 0)
            self.same(other.log(), [])
            self.same(other.limit, limit)
            self.same(other.width, 2)
            self.same(asked.log(), before)
            for _ in range(limit if limit is not None else 9):
                self.same(other.ask(3), 1)
            if limit is not None:
                self.refused(Spent, "allowed", limit, other.ask, 3)
            self.same(asked.log(), before)
            self.same(other.fresh().asks, 0)

    def test_returned_lists_are_new(self):
        asked = Asked(AND)
        asked.ask(2)
        asked.log().append(0)
        asked.words_asked().clear()
        self.same(asked.log(), [2])
        self.same(asked.words_asked(), [2])
        self.same(asked.asks, 1)
        self.assertIsNot(asked.log(), asked.log())

    def test_two_objects_of_one_table(self):
        first, second = Asked(AND), Asked(AND, limit=1)
        first.ask(1)
        self.same(second.asks, 0)
        second.ask(2)
        self.same((first.log(), second.log()), ([1], [2]))

    def test_arguments(self):
        for value, error in table_faults():
            self.refused(error, "argument", "table", Asked, value)
            self.refused(error, "argument", "table", Asked, value, limit=-1)
            self.refused(error, "argument", "table", Asked, table=value, limit="1")
        for value, error in integer_faults(0, 10000):
            if value is not None:
                self.refused(error, "argument", "limit", Asked, AND, limit=value)
        with self.assertRaises(TypeError):
            Asked(AND, 3)


class AskingAll(Promises):
    def test_values(self):
        for table in some_tables():
            self.check_asking(ask_all, table, {}, list(range(len(table))))
            self.same(ask_all(Asked(table)), table)

    def test_after_other_asks(self):
        asked = Asked(AND, limit=5)
        asked.ask(3)
        self.same(ask_all(asked), AND)
        self.same(asked.log(), [3, 0, 1, 2, 3])
        self.refused(Spent, "allowed", 5, ask_all, asked)

    def test_arguments(self):
        self.check_refusing(ask_all, AND, {}, {})


class ToldVotes(Promises):
    def test_values(self):
        for table in some_tables(0, 4):
            last = len(table) - 1
            for words in some_rows(table.width)[:-2] + [[last] * 5]:
                for word in {0, last, last // 3}:
                    asks, ones = [], 0
                    for other in words:
                        asks += [other, word ^ other]
                        ones += table.bits[other] != table.bits[word ^ other]
                    asked = Asked(table)
                    self.same(told_votes(asked, word, words), (len(words) - ones, ones))
                    self.same(asked.log(), asks)

    def test_asks(self):
        self.check_asking(told_votes, AND, {"word": 0, "words": [1, 1, 3]}, [1, 1, 1, 1, 3, 3])
        self.check_asking(told_votes, AND, {"word": 3, "words": [1, 2, 1, 0]}, [1, 2, 2, 1, 1, 2, 0, 3])
        self.check_asking(told_votes, drawn_table(6, 4), {"word": 62, "words": []}, [])
        self.same(told_votes(Asked(AND), 3, [0] * 64), (0, 64))

    def test_arguments(self):
        for width, words in ((0, [0, 0]), (2, [1, 3, 1]), (6, [63])):
            named = {"word": 2**width - 1, "words": words}
            faults = {"word": word_faults(width), "words": row_faults(words, 0, 64, word_faults(width))}
            self.check_refusing(told_votes, drawn_table(width, 1), named, faults)


def hand_words(width, asks, coin_row):
    """The words that these asks take, from point 29."""
    words = []
    for shift, masks in asks:
        words.append(sum(2**p * ((shift // 2**p + ones_in(masks[p] & coin_row)) % 2) for p in range(width)))
    return words


def some_trials():
    """The arguments of Trials of all numbers of coins and asks."""
    rows = []
    for width in (0, 1, 2, 3, 6):
        for coins in (0, 1, 2, 3, 7, 10):
            for many in range(4):
                last = 2**coins - 1
                asks = []
                for index in range(many):
                    masks = [(37 * (place + 1) * (index + 2) + 5 * place) & last for place in range(width)]
                    asks.append(((11 * index + 5) % 2**width, masks))
                rows.append((width, coins, asks, drawn_table(many, 13 * width + 7 * coins + 5)))
    return rows


class TrialChecks(Promises):
    def check_trial(self, trial, width, coins, asks, verdict):
        """The trial has these properties, asks these words and refuses as it should."""
        self.same(trial.width, width)
        self.same(trial.coins, coins)
        self.same(trial.asks, tuple((shift, tuple(masks)) for shift, masks in asks))
        self.same(trial.verdict, verdict)
        for table in odd_tables(width)[-5:]:
            refused = []
            rows = range(2**coins) if coins < 8 else range(0, 2**coins, 51)
            for row in rows:
                words = hand_words(width, asks, row)
                answer = sum(2**index * table.bits[word] for index, word in enumerate(words))
                wanted = verdict.bits[answer] == 1
                asked = Asked(table)
                self.same(trial(asked, row), wanted)
                self.same(asked.log(), words)
                self.same(asked_words(trial, row), words)
                refused += [row] if wanted else []
            if coins < 8:
                self.same(refusing_count(trial, table), len(refused))
                self.same(refusing_share(trial, table), told(Fraction(len(refused), 2**coins)))
                self.same(first_refusal(trial, table), refused[0] if refused else None)
                for times in (0, 1, 3):
                    wanted = (1 - Fraction(len(refused), 2**coins)) ** times
                    self.same(passing_share(trial, table, times), told(wanted))


class Trials(TrialChecks):
    def test_values(self):
        for width, coins, asks, verdict in some_trials():
            self.check_trial(Trial(width, coins, asks, verdict), width, coins, asks, verdict)

    def test_ten_coins(self):
        for width, coins, asks, verdict in some_trials():
            if coins == 10:
                trial, table = Trial(width, coins, asks, verdict), drawn_table(width, 5)
                refused = [row for row in range(1024) if trial(Asked(table), row)]
                self.same(refusing_count(trial, table), len(refused))
                self.same(first_refusal(trial, table), refused[0] if refused else None)

    def test_each_coin_counts(self):
        trial = Trial(1, 10, [(0, [1023])], place_table(1, 0))
        table = Table(1, [0, 1])
        for coin in range(10):
            self.same(trial(Asked(table), 2**coin), True)
            self.same(trial(Asked(table), 1023 - 2**coin), True)
        self.same(trial(Asked(table), 1023), False)
        self.same(refusing_count(trial, table), 512)

    def test_without_coins_or_asks(self):
        for bit in (0, 1):
            for coins in (0, 3):
                trial = Trial(2, coins, [], Table(0, [bit]))
                asked = Asked(AND, limit=0)
                self.same(trial(asked, 0), bit == 1)
                self.same(asked.asks, 0)
                self.same(asked_words(trial, 0), [])
                self.same(refusing_count(trial, AND), bit * 2**coins)
                self.same(first_refusal(trial, AND), 0 if bit else None)

    def test_rows_of_each_kind(self):
        verdict = drawn_table(2, 3)
        asks = [[1, [3, 4]], [2, [0, 7]]]
        wanted = Trial(2, 3, asks, verdict)
        for other in (
            ((1, (3, 4)), (2, (0, 7))), [(1, [3, 4]), (2, (0, 7))], ([1, (3, 4)], [2, [0, 7]]), [[1, (3, 4)], (2, [0, 7])],
        ):
            trial = Trial(2, 3, other, verdict)
            self.same(trial, wanted)
            self.same(trial.asks, ((1, (3, 4)), (2, (0, 7))))
            self.same([trial(Asked(AND), row) for row in range(8)], [wanted(Asked(AND), row) for row in range(8)])

    def test_rows_changed_afterwards(self):
        masks = [3, 4]
        ask = [1, masks]
        asks = [ask, (2, masks)]
        trial = Trial(2, 3, asks, drawn_table(2, 3))
        before = (kinds(trial), [asked_words(trial, row) for row in range(8)])
        masks[0] = 0
        masks.append(5)
        ask[0] = 0
        ask.append(None)
        asks.pop()
        self.same((kinds(trial), [asked_words(trial, row) for row in range(8)]), before)

    def test_returned_lists_are_new(self):
        trial = pair_trial(2)
        asked_words(trial, 6).clear()
        self.same(asked_words(trial, 6), [2, 1, 3])

    def test_order_of_the_asks(self):
        trial = Trial(2, 1, [(3, [0, 0]), (0, [1, 0]), (3, [0, 0])], drawn_table(3, 4))
        self.check_asking(trial, AND, {"coin_row": 1}, [3, 1, 3])
        self.same(asked_words(trial, 0), [3, 0, 3])
        self.check_asking(pair_trial(0), Table(0, [1]), {"coin_row": 0}, [0, 0, 0])

    def test_returned_values(self):
        asked = Asked(AND)
        self.same(pair_trial(2)(asked, coin_row=9), True)
        self.same(pair_trial(2)(coin_row=0, asked=asked), False)
        self.same(asked.log(), [1, 2, 3, 0, 0, 0])


class TrialArguments(Promises):
    def asks_faults(self, width, coins, asks):
        items = kind_faults(NO_ROWS)
        good = asks[0]
        items += [([], WrongSize), ((None,), WrongSize), ([0, good[1], 0], WrongSize), ((None, None, None), WrongSize)]
        items += [((value, good[1]), error) for value, error in word_faults(width)]
        items += [([value, None], error) for value, error in word_faults(width)]
        items += [([0, value], WrongKind) for value in NO_ROWS]
        for length in (0, 1, 2, 3, 6, 7):
            if length != width:
                items += [((0, [0] * length), WrongSize), ((0, (None,) * length), WrongSize)]
        for place in range(width):
            for value, error in word_faults(coins):
                items += [((0, good[1][:place] + [value] + [-1] * (width - place - 1)), error)]
        return row_faults(asks, 0, 3, items)

    def test_arguments(self):
        for width, coins, many in ((0, 0, 1), (2, 3, 2), (3, 10, 3)):
            asks = [(2**width - 1, [2**coins - 1] * width)] * many
            good = {"width": width, "coins": coins, "asks": asks, "verdict": drawn_table(many, 3)}
            verdicts = [(drawn_table(other, 3), WrongSize) for other in range(7) if other != many]
            faults = {
                "width": width_faults(), "coins": integer_faults(0, 10), "asks": self.asks_faults(width, coins, asks),
                "verdict": table_faults() + verdicts,
            }
            self.check_function(Trial, good, faults)

    def test_verdict_of_other_widths(self):
        for many in range(4):
            for other in range(7):
                if other != many:
                    asks = [(0, [0])] * many
                    self.refused(WrongSize, "argument", "verdict", Trial, 1, 1, asks, drawn_table(other, 1))

    def test_call(self):
        for width, coins, asks, verdict in some_trials():
            if len(asks) == 2 and coins in (0, 3, 10):
                trial = Trial(width, coins, asks, verdict)
                table, faults = drawn_table(width, 2), {"coin_row": word_faults(coins)}
                self.check_refusing(trial, table, {"coin_row": 2**coins - 1}, faults)
                for other in range(7):
                    if other != width:
                        asked = Asked(drawn_table(other, 1))
                        self.refused(WrongSize, "argument", "asked", trial, asked, 0)
                        self.refused(WrongSize, "argument", "asked", trial, asked, None)
                        self.same(asked.asks, 0)
                good = {"trial": trial, "coin_row": 2**coins - 1}
                self.check_function(asked_words, good, {"trial": kind_faults(NO_TRIALS), **faults})

    def test_trial_and_table(self):
        for width in (0, 2, 6):
            others = [(drawn_table(other, 3), WrongSize) for other in range(7) if other != width]
            good = {"trial": Trial(width, 2, [(0, [3] * width)], Table(1, [0, 1])), "table": drawn_table(width, 2)}
            faults = {"trial": kind_faults(NO_TRIALS), "table": table_faults() + others}
            for function in (refusing_count, refusing_share, first_refusal):
                self.check_function(function, good, faults)
            good, faults = {**good, "times": 20}, {**faults, "times": integer_faults(0, 20)}
            self.check_function(passing_share, good, faults)

    def test_an_asked_object_is_no_table(self):
        self.refused(WrongKind, "argument", "table", refusing_count, pair_trial(2), Asked(AND))
        self.refused(WrongKind, "argument", "asked", pair_trial(2), AND, 0)
        self.refused(WrongKind, "argument", "asked", ask_all, AND)
        self.assertNotIn(True, [isinstance(value, Asked) for value in NO_ASKED])


class PassingShares(Promises):
    def test_times(self):
        trial = pair_trial(2)
        self.same(refusing_share(trial, AND), (3, 8))
        self.same(passing_share(trial, AND), (5, 8))
        for times in range(21):
            self.same(passing_share(trial, AND, times), (5**times, 8**times))
            self.same(passing_share(trial, AND, times=times), (5**times, 8**times))

    def test_no_and_all_rows(self):
        always, never = pair_trial(1), pair_trial(1)
        for times in (0, 1, 20):
            self.same(passing_share(never, Table(1, [0, 1]), times), (1, 1))
            self.same(passing_share(always, Table(1, [1, 1]), times), (0, 1) if times else (1, 1))


class MadeTrials(TrialChecks):
    def coin_masks(self, width, first):
        return [2 ** (first + place) for place in range(width)]

    def test_pair_trial(self):
        for width in range(6):
            first, second = self.coin_masks(width, 0), self.coin_masks(width, width)
            asks = [(0, first), (0, second), (0, [a + b for a, b in zip(first, second)])]
            self.check_trial(pair_trial(width), width, 2 * width, asks, sum_table(3, 7))
            for table in odd_tables(width):
                self.same(refusing_count(pair_trial(width), table), breaking_count(table))
                self.same(refusing_share(pair_trial(width), table), breaking_share(table))
                pairs = [(y, x) for y in range(len(table)) for x in range(len(table))]
                broken = [x + 2**width * y for y, x in pairs if self.breaks(table, x, y)]
                self.same(first_refusal(pair_trial(width), table), broken[0] if broken else None)
                self.assertEqual(broken == [], first_breaking_pair(table) is None)

    def breaks(self, table, x, y):
        return (table.bits[x] + table.bits[y] + table.bits[x ^ y]) % 2 == 1

    def test_alike_trial(self):
        for width in range(6):
            asks = [(0, self.coin_masks(width, 0)), (0, self.coin_masks(width, width))]
            self.check_trial(alike_trial(width), width, 2 * width, asks, sum_table(2, 3))
            for table in odd_tables(width):
                ones = table.ones
                self.same(refusing_count(alike_trial(width), table), 2 * ones * (len(table) - ones))

    def test_turn_trial(self):
        for width in range(1, 7):
            for place in range(width):
                masks = self.coin_masks(width, 0)
                asks = [(0, masks), (2**place, masks)]
                self.check_trial(turn_trial(width, place), width, width, asks, sum_table(2, 3))
                for table in odd_tables(width):
                    turning = [x for x in range(len(table)) if table.bits[x] != table.bits[x ^ 2**place]]
                    self.same(refusing_count(turn_trial(width, place), table), len(turning))
                    self.same(first_refusal(turn_trial(width, place), table), turning[0] if turning else None)

    def test_spot_trial(self):
        for width in range(7):
            for word in {0, 2**width - 1, 2**width // 3}:
                for bit in (0, 1):
                    verdict = Table(1, [bit, 1 - bit])
                    self.check_trial(spot_trial(width, word, bit), width, 0, [(word, [0] * width)], verdict)
                    table = drawn_table(width, 3)
                    self.same(first_refusal(spot_trial(width, word, bit), table), None if table[word] == bit else 0)

    def test_arguments_of_made_trials(self):
        pair_faults = {"width": integer_faults(0, 5)}
        for width in range(6):
            self.check_function(pair_trial, {"width": width}, pair_faults)
            self.check_function(alike_trial, {"width": width}, pair_faults)
        for width in (1, 3, 6):
            faults = {"width": width_faults(), "place": place_faults(width)}
            self.check_function(turn_trial, {"width": width, "place": width - 1}, faults)
            good = {"width": width, "word": 2**width - 1, "bit": 1}
            faults = {"width": width_faults(), "word": word_faults(width), "bit": integer_faults(0, 1)}
            self.check_function(spot_trial, good, faults)
        for function in (pair_trial, alike_trial):
            self.refused(OutOfRange, "argument", "width", function, 6)
        for place in (0, 1, -1, HUGE):
            self.refused(OutOfRange, "argument", "place", turn_trial, 0, place)
        for value in NO_INTEGERS:
            self.refused(WrongKind, "argument", "place", turn_trial, 0, value)

    def test_constant_tables(self):
        for width in range(6):
            for bit in (0, 1):
                self.same(refusing_count(alike_trial(width), constant_table(width, bit)), 0)
                self.same(first_refusal(alike_trial(width), constant_table(width, bit)), None)


if __name__ == "__main__":
    unittest.main()
