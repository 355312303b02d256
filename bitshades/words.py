"""Words and sets of places, both written as integers (points 11 to 15)."""

from bitshades.checks import (
    check_bits,
    check_place,
    check_places,
    check_range,
    check_word,
    check_words,
)

MOST_WIDTH = 6


def check_width(width):
    """Refuse what is no width."""
    check_range(width, 0, MOST_WIDTH, "width")


def check_two_words(width, first, second):
    """Refuse what is no width with two words, or sets, of it."""
    check_width(width)
    check_word(width, first, "first")
    check_word(width, second, "second")


def word_count(width):
    """The number of words of the width."""
    check_width(width)
    return 1 << width


def all_words(width):
    """The list of all words, ascending."""
    check_width(width)
    return list(range(1 << width))


def bit_at(width, word, place):
    """The bit of the word at the place."""
    check_width(width)
    check_word(width, word, "word")
    check_place(width, place, "place")
    return (word >> place) & 1


def turn_bit(width, word, place):
    """The word turned at the place."""
    check_width(width)
    check_word(width, word, "word")
    check_place(width, place, "place")
    return word ^ (1 << place)


def add_words(width, first, second):
    """The sum of two words, without carry."""
    check_two_words(width, first, second)
    return first ^ second


def size_of(width, word):
    """The number of places of the word with bit 1."""
    return sum(bits_of_word(width, word))


def parity(width, chosen, word):
    """The parity of the set at the word, a bit."""
    check_width(width)
    check_word(width, chosen, "chosen")
    check_word(width, word, "word")
    return size_of(width, chosen & word) & 1


def word_of_bits(bits):
    """The word with these bits, the bit at place 0 first."""
    check_bits(bits, 0, MOST_WIDTH, "bits")
    return sum([bit << place for place, bit in enumerate(bits)])


def bits_of_word(width, word):
    """The list of the bits of the word, the bit at place 0 first."""
    check_width(width)
    check_word(width, word, "word")
    return [(word >> place) & 1 for place in range(width)]


def set_of_places(width, places):
    """The set of the places in the row."""
    check_width(width)
    check_places(width, places, 0, "places")
    return sum([1 << place for place in places])


def places_of_set(width, chosen):
    """The list of the places of the set, ascending."""
    check_width(width)
    check_word(width, chosen, "chosen")
    return [place for place in range(width) if (chosen >> place) & 1]


def rest_of(width, chosen):
    """The set of all places that are not in the set."""
    check_width(width)
    check_word(width, chosen, "chosen")
    return ((1 << width) - 1) ^ chosen


def beginning(width, word, count):
    """The word with 0 at all places from count on."""
    check_width(width)
    check_word(width, word, "word")
    check_range(count, 0, width, "count")
    return word & ((1 << count) - 1)


def is_within(width, first, second):
    """True if each place of the set first is in the set second."""
    check_two_words(width, first, second)
    return (first & second) == first


def subsets(width, chosen):
    """The list of all subsets of the set, ascending."""
    check_width(width)
    check_word(width, chosen, "chosen")
    return [part for part in range(1 << width) if (part & chosen) == part]


def words_of_size(width, size):
    """The list of all words of that size, ascending."""
    check_width(width)
    check_range(size, 0, width, "size")
    return [word for word in range(1 << width) if size_of(width, word) == size]


def gather(width, chosen, word):
    """The bits of the word at the places of the set, put side by side."""
    check_width(width)
    check_word(width, chosen, "chosen")
    check_word(width, word, "word")
    return word_of_bits([(word >> place) & 1 for place in places_of_set(width, chosen)])


def spread(width, chosen, word):
    """The word that gathers to the given one and is 0 outside of the set."""
    places = places_of_set(width, chosen)
    check_word(len(places), word, "word")
    return sum([((word >> index) & 1) << place for index, place in enumerate(places)])


def reorder(width, word, order):
    """The word whose bit at place i is the bit of the given one at order[i]."""
    check_width(width)
    check_word(width, word, "word")
    check_places(width, order, width, "order")
    return word_of_bits([(word >> place) & 1 for place in order])


def span(width, words):
    """The list of all sums of any number of the words, ascending."""
    check_width(width)
    check_words(width, words, "words")
    reached = [0]
    for word in words:
        if word not in reached:
            reached = reached + [word ^ other for other in reached]
    return sorted(reached)


def across(width, words):
    """The list of all sets whose parity at each of the words is 0, ascending."""
    check_width(width)
    check_words(width, words, "words")
    return [
        chosen
        for chosen in range(1 << width)
        if not any([parity(width, chosen, word) for word in words])
    ]
