"""Tables whose bits are turned, and their scores led along (point 49)."""

from bitshades.checks import check_bit, check_field, check_word
from bitshades.errors import NothingToUndo
from bitshades.pairs import count_from_cubes
from bitshades.parting import with_turned_bit
from bitshades.shades import stepped_through, width_of
from bitshades.tables import check_table, sign_of
from bitshades.words import parity


def scores_led(field, word, bit):
    """The scores after the old bit at the word is turned, where all arguments have been checked."""
    width = width_of(field)
    return [item - 2 * sign_of(bit ^ parity(width, chosen, word)) for chosen, item in enumerate(field)]


def led_scores(field, word, bit):
    """The list of the scores after the bit at the word is turned; bit is the old one."""
    check_field(field, "field")
    check_word(width_of(field), word, "word")
    check_bit(bit, "bit")
    return scores_led(field, word, bit)


class Led:
    """A table whose bits can be turned, with its scores, and the turns that can be undone."""

    def __init__(self, table):
        check_table(table, "table")
        self._table = table
        self._scores = stepped_through(table.signs())
        self._steps = []

    @property
    def table(self):
        """The table as it is now."""
        return self._table

    @property
    def scores(self):
        """The list of the scores of the table."""
        return list(self._scores)

    @property
    def breaking(self):
        """The number of pairs of words that break the table."""
        return count_from_cubes(len(self._scores), sum([item ** 3 for item in self._scores]))

    def turn(self, word):
        """Turn the bit at the word; the new bit."""
        check_word(self._table.width, word, "word")
        lead(self, word)
        self._steps.append(word)
        return self._table[word]

    def undo(self):
        """Take back the last turn that was not taken back; its word."""
        if len(self._steps) == 0:
            raise NothingToUndo()
        word = self._steps.pop()
        lead(self, word)
        return word

    def steps(self):
        """The list of the words of the turns that were not taken back, in order."""
        return list(self._steps)

    def twin(self):
        """A new Led with the same table, scores and steps."""
        other = Led(self._table)
        other._steps = list(self._steps)
        return other


def lead(led, word):
    """Turn the bit at the word in the table of the Led, and lead its scores along."""
    led._scores = scores_led(led._scores, word, led._table[word])
    led._table = with_turned_bit(led._table, word)
