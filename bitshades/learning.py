"""Places that count, covering words, and learning by asking few words (points 37 to 40)."""

from bitshades.asking import check_asked
from bitshades.checks import check_range, check_words, is_place, is_word
from bitshades.degree import table_of_terms, terms
from bitshades.errors import TooFewPlaces
from bitshades.influence import turning_counts, turning_words
from bitshades.parting import fixed
from bitshades.seeking import answers_at
from bitshades.shades import scores
from bitshades.tables import Table, check_table
from bitshades.words import (
    MOST_WIDTH,
    all_words,
    check_width,
    gather,
    places_of_set,
    rest_of,
    set_of_places,
    size_of,
    spread,
    words_of_size,
)


def check_number(number, argument):
    """Refuse what is no number of places from 0 to 6."""
    check_range(number, 0, MOST_WIDTH, argument)


def counting_places(table):
    """The set of the places that count, by turning words."""
    counts = turning_counts(table)
    return set_of_places(table.width, [place for place, count in enumerate(counts) if count > 0])


def counting_places_by_scores(table):
    """The set of the places that count, as the union of all sets with a score that is not 0."""
    union = 0
    for chosen, item in enumerate(scores(table)):
        if item != 0:
            union = union | chosen
    return union


def place_pairs(table):
    """The list of a turning pair with the least word for each place that counts, ascending by place."""
    chosen = counting_places(table)
    return [(place, turning_words(table, place)[0]) for place in places_of_set(table.width, chosen)]


def is_turning_pair(table, pair):
    """True if the value is a tuple of a place and a word that turns the table there."""
    if not isinstance(pair, tuple) or len(pair) != 2:
        return False
    place, word = pair
    if not is_place(table.width, place) or not is_word(table.width, word):
        return False
    return table[word] != table[word ^ (1 << place)]


def are_place_pairs(table, chosen, pairs):
    """True if the value is a list of one turning pair for each place of the set, and no others."""
    if not isinstance(pairs, list) or not all([is_turning_pair(table, pair) for pair in pairs]):
        return False
    return sorted([place for place, _ in pairs]) == places_of_set(table.width, chosen)


def is_place_pairs(table, paper):
    """Judge: True if the paper is a list of one turning pair for each place that counts."""
    return are_place_pairs(table, counting_places(table), paper)


def core(table):
    """The core of the table, the tuple of the set of all places that count and the table of these."""
    chosen = counting_places(table)
    # The other places do not count, so they may be fixed to anything.
    return (chosen, fixed(table, rest_of(table.width, chosen), 0))


def is_core(table, paper):
    """Judge: True if the paper is the core of the table."""
    right = core(table)
    if not isinstance(paper, tuple) or len(paper) != 2:
        return False
    return is_word(table.width, paper[0]) and paper == right


def words_up_to(width, size):
    """The list of the words of at most that size, ascending."""
    return [word for word in all_words(width) if size_of(width, word) <= size]


def covering_words(width, few=1):
    """The list of the covering words for that many places."""
    check_width(width)
    check_number(few, "few")
    return words_up_to(width, few)


def is_covering(width, few, words):
    """True if the row of words covers that many places."""
    check_width(width)
    check_number(few, "few")
    check_words(width, words, "words")
    size = min(few, width)
    sets = words_of_size(width, size)
    return all([len({gather(width, chosen, word) for word in words}) == (1 << size) for chosen in sets])


def unlike_words(width, answers, chosen):
    """The tuple of two words that gather alike by the set and have unlike answers, or None.

    The second word is the first one for which there is such a word ahead of it.
    """
    firsts = {}
    for word, bit in answers.items():
        part = gather(width, chosen, word)
        # All words ahead of this one that gather alike have one answer.
        ahead = firsts.setdefault(part, word)
        if answers[ahead] != bit:
            return (ahead, word)
    return None


def turning_pair_between(width, answers, first, second):
    """The turning pair that halving finds between two words with unlike answers."""
    places = places_of_set(width, first ^ second)
    low = 0
    high = len(places)
    while high - low > 1:
        middle = (low + high) // 2
        if answers[turned_at(first, places[:middle])] == answers[turned_at(first, places[:low])]:
            low = middle
        else:
            high = middle
    return (places[low], turned_at(first, places[:low]))


def turned_at(word, places):
    """The word turned at each of the places."""
    return word ^ sum([1 << place for place in places])


def core_table(width, answers, chosen):
    """The table that has at each word the answer at the first asked word that gathers to it by the set."""
    size = size_of(width, chosen)
    return Table(size, [answers[spread(width, chosen, word)] for word in all_words(size)])


def learn_few(asked, few=1):
    """Learn few places: the tuple of their set, the core table and a list of turning pairs."""
    check_asked(asked, "asked")
    check_number(few, "few")
    width = asked.width
    most = min(few, width)
    answers = answers_at(asked, words_up_to(width, most))
    chosen = 0
    pairs = []
    two = unlike_words(width, answers, chosen)
    while two is not None:
        pairs.append(turning_pair_between(width, answers, two[0], two[1]))
        chosen = chosen | (1 << pairs[-1][0])
        if len(pairs) > most:
            raise TooFewPlaces(places_of_set(width, chosen))
        two = unlike_words(width, answers, chosen)
    return (chosen, core_table(width, answers, chosen), pairs)


def is_learnt(table, few, paper):
    """Judge: True if the paper is a right learnt paper of the table for that many places."""
    check_table(table, "table")
    check_number(few, "few")
    if not isinstance(paper, tuple) or len(paper) != 3:
        return False
    chosen, part, pairs = paper
    # A place with a turning pair counts, so the table of the right sets is the core.
    if not is_core(table, (chosen, part)) or size_of(table.width, chosen) > few:
        return False
    return are_place_pairs(table, chosen, pairs)


def degree_words(width, most):
    """The list of the words of size at most most, ascending."""
    check_width(width)
    check_number(most, "most")
    return words_up_to(width, most)


def learn_degree(asked, most):
    """Learn a degree: the Table of that degree with the answers at the words of at most that size."""
    check_asked(asked, "asked")
    check_number(most, "most")
    width = asked.width
    answers = answers_at(asked, words_up_to(width, most))
    told = Table(width, [answers.get(word, 0) for word in all_words(width)])
    kept = [term if chosen in answers else 0 for chosen, term in enumerate(terms(told))]
    return table_of_terms(kept)
