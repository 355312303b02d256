"""Tables of bits, one for each word (points 16 to 19)."""

from bitshades.checks import check_bits, check_range, check_text, check_word
from bitshades.errors import BadText, WrongKind, WrongSize
from bitshades.notation import digit_at, written_bits
from bitshades.words import MOST_WIDTH, check_width, word_count


class Table:
    """One bit for each word of a width. No call changes a Table."""

    def __init__(self, width, bits):
        check_width(width)
        check_bits(bits, word_count(width), word_count(width), "bits")
        self._width = width
        self._bits = tuple(bits)

    @classmethod
    def of_text(cls, text):
        """The table with this written form."""
        check_text(text, "text")
        bits = read_bits(text)
        return cls(digit_at(text, 0), bits)

    @classmethod
    def of_number(cls, width, number):
        """The table with this number."""
        check_width(width)
        check_range(number, 0, (1 << word_count(width)) - 1, "number")
        return cls(width, [(number >> word) & 1 for word in range(word_count(width))])

    @property
    def width(self):
        """The width of the words."""
        return self._width

    @property
    def bits(self):
        """The tuple of all bits, in the order of the words."""
        return self._bits

    @property
    def ones(self):
        """The number of words with bit 1."""
        return sum(self._bits)

    @property
    def number(self):
        """The sum of 2^x over all words x with bit 1."""
        return sum([bit << word for word, bit in enumerate(self._bits)])

    def sign(self, word):
        """1 at a word with bit 0, and -1 at a word with bit 1."""
        check_word(self._width, word, "word")
        return sign_of(self._bits[word])

    def signs(self):
        """The list of all signs, in the order of the words."""
        return [sign_of(bit) for bit in self._bits]

    def __len__(self):
        return len(self._bits)

    def __getitem__(self, at):
        check_word(self._width, at, "word")
        return self._bits[at]

    def __iter__(self):
        return iter(self._bits)

    def __eq__(self, other):
        return isinstance(other, Table) and self._width == other._width and self._bits == other._bits

    def __add__(self, other):
        check_alike(self, other, "other")
        return Table(self._width, [mine ^ given for mine, given in zip(self._bits, other._bits)])

    def __and__(self, other):
        check_alike(self, other, "other")
        return Table(self._width, [mine & given for mine, given in zip(self._bits, other._bits)])

    def __invert__(self):
        return Table(self._width, [1 - bit for bit in self._bits])

    def __str__(self):
        return f"{self._width}:{written_bits(self._bits)}"


def sign_of(bit):
    """The sign of the bit."""
    return 1 - 2 * bit


def check_table(table, argument):
    """Refuse what is no Table."""
    if not isinstance(table, Table):
        raise WrongKind(argument)


def check_alike(first, second, argument):
    """Refuse what is no Table of the width of the first one."""
    check_table(second, argument)
    if second.width != first.width:
        raise WrongSize(argument)


def read_bits(text):
    """The bits of the written form of a table."""
    width = digit_at(text, 0)
    if width < 0 or width > MOST_WIDTH:
        raise BadText(0)
    if text[1:2] != ":":
        raise BadText(1)
    end = 2 + word_count(width)
    bits = [digit_at(text, position) for position in range(2, end)]
    for index, bit in enumerate(bits):
        if bit not in (0, 1):
            raise BadText(2 + index)
    if len(text) > end:
        raise BadText(end)
    return bits
