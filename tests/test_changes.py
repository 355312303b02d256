"""Point 49 and the interface of changes.py."""

import unittest

from bitshades.asking import Asked
from bitshades.book import Book
from bitshades.changes import Led, led_scores
from bitshades.errors import NothingToUndo, OutOfRange, WrongKind
from bitshades.making import drawn_table, sum_table
from bitshades.parting import with_turned_bit
from bitshades.tables import Table
from helping import HUGE, Promises, changed, field_faults, integer_faults, table_faults, word_faults
from plainly import hand_scores, ones_in, sign, some_tables, sum_breaks

AND = Table(2, [0, 0, 0, 1])


def hand_turned(table, word):
    bits = list(table.bits)
    bits[word] = 1 - bits[word]
    return Table(table.width, bits)


class LedScores(Promises):
    def test_tables(self):
        for table in some_tables():
            for word in {0, len(table) - 1, len(table) // 3, len(table) // 2}:
                wanted = hand_scores(hand_turned(table, word))
                self.same(led_scores(hand_scores(table), word, table.bits[word]), wanted)
                self.same(led_scores(tuple(wanted), word, 1 - table.bits[word]), hand_scores(table))

    def test_any_field(self):
        for width in range(7):
            field = [(-3) ** index - 5 * index for index in range(2**width)]
            for word in {0, 2**width - 1, 2**width // 3}:
                for bit in (0, 1):
                    wanted = [item - 2 * sign(bit + ones_in(chosen & word)) for chosen, item in enumerate(field)]
                    self.same(led_scores(field, word, bit), wanted)
        self.same(led_scores([HUGE, 0], 1, 0), [HUGE - 2, 2])
        self.same(led_scores([0, 0, 0, 0], 3, 1), [2, -2, -2, 2])
        self.same(led_scores([7], 0, 0), [5])

    def test_arguments(self):
        for width in (0, 1, 2, 6):
            good = {"field": hand_scores(drawn_table(width, 5)), "word": 2**width - 1, "bit": 1}
            faults = {"field": field_faults(), "word": word_faults(width), "bit": integer_faults(0, 1)}
            self.check_function(led_scores, good, faults)


class Turns(Promises):
    def check_state(self, led, table, steps):
        self.same(led.table, table)
        self.same(led.scores, hand_scores(table))
        self.same(led.breaking, sum_breaks(table))
        self.same(led.steps(), steps)

    def test_turns_and_undo(self):
        for table in some_tables():
            led = Led(table)
            states = [table]
            words = [len(table) - 1, 0, len(table) // 3, len(table) // 3, 0, len(table) // 2]
            for index, word in enumerate(words):
                self.check_state(led, states[-1], words[:index])
                states.append(hand_turned(states[-1], word))
                self.same(led.turn(word), states[-1].bits[word])
            for index in reversed(range(len(words))):
                self.check_state(led, states[index + 1], words[: index + 1])
                self.same(led.undo(), words[index])
            self.check_state(led, table, [])
            self.nothing_to_undo(led)
            self.check_state(led, table, [])

    def nothing_to_undo(self, led):
        with self.assertRaises(NothingToUndo) as caught:
            led.undo()
        self.assertIs(type(caught.exception), NothingToUndo)
        self.assertEqual(vars(caught.exception), {})

    def test_the_same_word_again(self):
        led = Led(AND)
        self.same(led.turn(3), 0)
        self.same(led.turn(3), 1)
        self.same(led.turn(word=0), 1)
        self.check_state(led, Table(2, [1, 0, 0, 1]), [3, 3, 0])
        self.same(led.undo(), 0)
        self.same(led.undo(), 3)
        self.check_state(led, Table(2, [0, 0, 0, 0]), [3])
        self.same(led.turn(1), 1)
        self.same(led.steps(), [3, 1])
        self.same(led.undo(), 1)
        self.same(led.undo(), 3)
        self.nothing_to_undo(led)

    def test_twin(self):
        led = Led(AND)
        early = led.twin()
        led.turn(0)
        led.turn(2)
        late = led.twin()
        self.check_state(early, AND, [])
        self.nothing_to_undo(early)
        self.check_state(late, Table(2, [1, 0, 1, 1]), [0, 2])
        self.same(late.undo(), 2)
        self.same(late.undo(), 0)
        self.nothing_to_undo(late)
        self.check_state(led, Table(2, [1, 0, 1, 1]), [0, 2])
        led.turn(3)
        early.turn(1)
        self.check_state(late, AND, [])
        self.check_state(early, Table(2, [0, 1, 0, 1]), [1])
        self.check_state(led, Table(2, [1, 0, 1, 0]), [0, 2, 3])
        self.assertIs(type(early), Led)

    def test_refused_turns_change_nothing(self):
        for width in (0, 2, 6):
            table = drawn_table(width, 5)
            led = Led(table)
            led.turn(0)
            for value, error in word_faults(width):
                self.refused(error, "argument", "word", led.turn, value)
                self.refused(error, "argument", "word", led.turn, word=value)
                self.same(led.steps(), [0])
            self.check_state(led, hand_turned(table, 0), [0])
        self.refused(OutOfRange, "argument", "word", Led(AND).turn, 4)

    def test_returned_lists_are_new(self):
        led = Led(AND)
        led.turn(1)
        changed(led.steps())
        changed(led.scores)
        self.check_state(led, Table(2, [0, 1, 0, 1]), [1])
        led.undo()
        self.check_state(led, AND, [])

    def test_tables_stay(self):
        table = sum_table(3, 5)
        led = Led(table)
        kept = led.table
        led.turn(4)
        self.same(table, sum_table(3, 5))
        self.same(kept, sum_table(3, 5))
        self.same(led.table, with_turned_bit(table, 4))

    def test_equal_calls_behave_alike(self):
        one, two = Led(table=AND), Led(AND)
        for led in (one, two):
            led.turn(2)
        self.check_state(one, two.table, two.steps())

    def test_arguments(self):
        for value, error in table_faults():
            self.refused(error, "argument", "table", Led, value)
            self.refused(error, "argument", "table", Led, table=value)
        for value in (Led(AND), Book(), Asked(AND), Table):
            self.refused(WrongKind, "argument", "table", Led, value)


if __name__ == "__main__":
    unittest.main()
