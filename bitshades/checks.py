"""The checks of arguments that the files of the package share (points 5 and 7).

Each check takes the name of the parameter as its last argument and raises the
first error that point 5 names.
"""

from bitshades.errors import OutOfRange, WrongKind, WrongSize

MOST_CHARACTERS = 200
MOST_ITEMS = 64
MOST_NAME = 8
LETTERS = "abcdefghijklmnopqrstuvwxyz"
MOST_SHARE_BOTTOM = 10000
FIELD_LENGTHS = (1, 2, 4, 8, 16, 32, 64)


def is_integer(value):
    """True for an integer; a bool is none."""
    return isinstance(value, int) and not isinstance(value, bool)


def is_word(width, value):
    """True for a word, or a set of places, of the width."""
    return is_integer(value) and 0 <= value < (1 << width)


def is_place(width, value):
    """True for a place of the width."""
    return is_integer(value) and 0 <= value < width


def is_name(text):
    """True for a text of 1 to 8 characters from a to z."""
    return 0 < len(text) <= MOST_NAME and all([character in LETTERS for character in text])


def check_integer(value, argument):
    """Refuse what is no integer."""
    if not is_integer(value):
        raise WrongKind(argument)


def check_range(value, least, greatest, argument):
    """Refuse what is no integer from least to greatest."""
    check_integer(value, argument)
    if value < least or value > greatest:
        raise OutOfRange(argument)


def check_word(width, word, argument):
    """Refuse what is no word, or no set of places, of the width."""
    check_range(word, 0, (1 << width) - 1, argument)


def check_place(width, place, argument):
    """Refuse what is no place of the width."""
    check_range(place, 0, width - 1, argument)


def check_bit(bit, argument):
    """Refuse what is no bit."""
    check_range(bit, 0, 1, argument)


def check_text(text, argument):
    """Refuse what is no text of at most 200 characters."""
    if not isinstance(text, str):
        raise WrongKind(argument)
    if len(text) > MOST_CHARACTERS:
        raise WrongSize(argument)


def check_name(name, argument):
    """Refuse what is no name."""
    if not isinstance(name, str):
        raise WrongKind(argument)
    if not is_name(name):
        raise OutOfRange(argument)


def check_row(row, least, greatest, argument):
    """Refuse what is no row of least to greatest items, whatever they are."""
    if not isinstance(row, (list, tuple)):
        raise WrongKind(argument)
    if len(row) < least or len(row) > greatest:
        raise WrongSize(argument)


def check_bits(bits, least, greatest, argument):
    """Refuse what is no row of least to greatest bits."""
    check_row(bits, least, greatest, argument)
    for bit in bits:
        check_bit(bit, argument)


def check_words(width, words, argument):
    """Refuse what is no row of 0 to 64 words, or sets of places, of the width."""
    check_row(words, 0, MOST_ITEMS, argument)
    for word in words:
        check_word(width, word, argument)


def check_word_pairs(width, pairs, least, greatest, argument):
    """Refuse what is no row of least to greatest rows of two words of the width."""
    check_row(pairs, least, greatest, argument)
    for pair in pairs:
        check_row(pair, 2, 2, argument)
        for word in pair:
            check_word(width, word, argument)


def check_places(width, places, least, argument):
    """Refuse what is no row of at least that many places of the width, each once."""
    check_row(places, least, width, argument)
    for index, place in enumerate(places):
        check_place(width, place, argument)
        if place in places[:index]:
            raise OutOfRange(argument)


def check_fraction(fraction, argument):
    """Refuse what is no fraction."""
    if not isinstance(fraction, tuple):
        raise WrongKind(argument)
    if len(fraction) != 2:
        raise WrongSize(argument)
    for item in fraction:
        check_integer(item, argument)
    if fraction[1] < 1:
        raise OutOfRange(argument)


def check_fractions(fractions, least, argument):
    """Refuse what is no row of least to 64 fractions."""
    check_row(fractions, least, MOST_ITEMS, argument)
    for fraction in fractions:
        check_fraction(fraction, argument)


def check_share(share, argument):
    """Refuse what is no fraction from 0 to 1 whose second item is at most 10000."""
    check_fraction(share, argument)
    top, bottom = share
    if top < 0 or top > bottom or bottom > MOST_SHARE_BOTTOM:
        raise OutOfRange(argument)


def check_threshold(threshold, argument):
    """Refuse what is no fraction greater than 0 and at most 1."""
    check_fraction(threshold, argument)
    top, bottom = threshold
    if top <= 0 or top > bottom:
        raise OutOfRange(argument)


def check_field_row(row, argument):
    """Refuse what is no row of 2^n items for some width n, whatever they are."""
    check_row(row, 0, MOST_ITEMS, argument)
    if len(row) not in FIELD_LENGTHS:
        raise WrongSize(argument)


def check_field(field, argument):
    """Refuse what is no row of 2^n integers for some width n."""
    check_field_row(field, argument)
    for item in field:
        check_integer(item, argument)


def check_fraction_field(values, argument):
    """Refuse what is no row of 2^n fractions for some width n."""
    check_field_row(values, argument)
    for fraction in values:
        check_fraction(fraction, argument)
