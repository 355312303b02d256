"""The written forms of words, sets and ratios, and their reading (points 16 and 17)."""

from bitshades.checks import check_fraction, check_text
from bitshades.errors import BadText
from bitshades.ratios import ratio
from bitshades.words import (
    MOST_WIDTH,
    bits_of_word,
    check_width,
    places_of_set,
    set_of_places,
    word_of_bits,
)

DIGITS = "0123456789"
MOST_DIGITS = 9


def written_bits(bits):
    """The bits as characters, the first bit first."""
    return "".join([str(bit) for bit in bits])


def digit_at(text, position):
    """The digit that stands at the position, or -1 if none stands there."""
    if position >= len(text):
        return -1
    return DIGITS.find(text[position])


def format_word(width, word):
    """The written form of the word."""
    bits = bits_of_word(width, word)
    if width == 0:
        return "-"
    return written_bits(bits)


def lone_hyphen(text):
    """True for the hyphen alone; BadText if anything stands behind a hyphen."""
    if text[:1] != "-":
        return False
    if len(text) > 1:
        raise BadText(1)
    return True


def parse_word(text):
    """The tuple (width, word) that the text stands for."""
    check_text(text, "text")
    if lone_hyphen(text):
        return (0, 0)
    if text == "":
        raise BadText(0)
    bits = [digit_at(text, position) for position in range(len(text))]
    for position, bit in enumerate(bits):
        if bit not in (0, 1) or position == MOST_WIDTH:
            raise BadText(position)
    return (len(bits), word_of_bits(bits))


def format_set(width, chosen):
    """The written form of the set."""
    places = places_of_set(width, chosen)
    if not places:
        return "-"
    return ",".join([str(place) for place in places])


def parse_set(width, text):
    """The set of the width that the text stands for."""
    check_width(width)
    check_text(text, "text")
    if lone_hyphen(text):
        return 0
    return set_of_places(width, read_places(width, text))


def read_places(width, text):
    """The places that the text names, with a comma between two of them."""
    places = []
    least = 0
    position = 0
    while True:
        place = digit_at(text, position)
        if place < least or place >= width:
            raise BadText(position)
        places.append(place)
        if position + 1 == len(text):
            return places
        least = place + 1
        # No place is left to follow a comma behind the last one.
        if text[position + 1] != "," or least == width:
            raise BadText(position + 1)
        position += 2


def format_ratio(fraction):
    """The written form of the ratio that equals the fraction."""
    check_fraction(fraction, "fraction")
    top, bottom = ratio(fraction[0], fraction[1])
    return f"{top}/{bottom}"


def parse_ratio(text):
    """The ratio that the text stands for."""
    check_text(text, "text")
    if text[:1] == "-":
        top, end = read_number(text, 1, 1)
        top = -top
    else:
        top, end = read_number(text, 0, 0)
    if text[end : end + 1] != "/":
        raise BadText(end)
    bottom, end = read_number(text, end + 1, 1)
    if end < len(text):
        raise BadText(end)
    return ratio(top, bottom)


def read_number(text, start, least):
    """The number that begins at start with a digit of at least least, and the index behind it."""
    number = digit_at(text, start)
    if number < least:
        raise BadText(start)
    end = start + 1
    # Nothing follows a leading zero, so 0 stands alone.
    while number > 0 and end < start + MOST_DIGITS and digit_at(text, end) >= 0:
        number = 10 * number + digit_at(text, end)
        end += 1
    return (number, end)
