"""Tables that are asked one bit at a time, and trials (points 28 and 29)."""

from bitshades.checks import check_bit, check_place, check_range, check_row, check_word, check_words
from bitshades.errors import OutOfRange, Spent, WrongKind, WrongSize
from bitshades.making import place_table, sum_table
from bitshades.ratios import ratio, ratio_power
from bitshades.tables import Table, check_table
from bitshades.words import all_words, check_width, word_of_bits

MOST_LIMIT = 10000
MOST_COINS = 10
MOST_ASKS = 3
MOST_TIMES = 20
WIDEST_PAIR = 5


class Asked:
    """A table that is read one bit at a time; each ask is counted."""

    def __init__(self, table, *, limit=None):
        check_table(table, "table")
        if limit is not None:
            check_range(limit, 0, MOST_LIMIT, "limit")
        self._table = table
        self._width = table.width
        self._limit = limit
        self._log = []

    @property
    def width(self):
        """The width of the table."""
        return self._width

    @property
    def limit(self):
        """How many asks are allowed, or None for no limit."""
        return self._limit

    @property
    def asks(self):
        """How many asks were counted."""
        return len(self._log)

    def ask(self, word):
        """The bit of the table at the word, counted."""
        check_word(self._width, word, "word")
        if self._limit is not None and len(self._log) >= self._limit:
            raise Spent(self._limit)
        self._log.append(word)
        return self._table[word]

    def log(self):
        """The list of all words whose asks were counted, in order."""
        return list(self._log)

    def words_asked(self):
        """The list of the words in the log, ascending, each once."""
        return sorted(set(self._log))

    def fresh(self):
        """A new object of the same table and limit with no asks."""
        return Asked(self._table, limit=self._limit)


def check_asked(asked, argument):
    """Refuse what is no Asked."""
    if not isinstance(asked, Asked):
        raise WrongKind(argument)


def ask_all(asked):
    """Ask all words, ascending; the Table of the answers."""
    check_asked(asked, "asked")
    return Table(asked.width, [asked.ask(word) for word in all_words(asked.width)])


def told_votes(asked, word, words):
    """Ask y and then word + y for each y of the row; the tuple of the numbers of votes 0 and 1."""
    check_asked(asked, "asked")
    check_word(asked.width, word, "word")
    check_words(asked.width, words, "words")
    ones = 0
    for other in words:
        bit = asked.ask(other)
        ones += bit ^ asked.ask(word ^ other)
    return (len(words) - ones, ones)


class Trial:
    """Asks that depend on a row of coins, and a verdict upon their answers. No call changes it."""

    def __init__(self, width, coins, asks, verdict):
        check_width(width)
        check_range(coins, 0, MOST_COINS, "coins")
        check_asks(width, coins, asks)
        check_table(verdict, "verdict")
        if verdict.width != len(asks):
            raise WrongSize("verdict")
        self._width = width
        self._coins = coins
        self._asks = tuple([(shift, tuple(masks)) for shift, masks in asks])
        self._verdict = verdict

    @property
    def width(self):
        """The width of the words that are asked."""
        return self._width

    @property
    def coins(self):
        """The number of coins."""
        return self._coins

    @property
    def asks(self):
        """The tuple of the asks, each a tuple of the shift and the tuple of the masks."""
        return self._asks

    @property
    def verdict(self):
        """The table that has bit 1 at the answer words with which the trial refuses."""
        return self._verdict

    def __call__(self, asked, coin_row):
        """Ask with the coin row; True if the trial refuses."""
        check_asked(asked, "asked")
        if asked.width != self._width:
            raise WrongSize("asked")
        check_coin_row(self, coin_row)
        return refuses(self, [asked.ask(word) for word in words_with(self, coin_row)])


def check_asks(width, coins, asks):
    """Refuse what are no asks of that width with that many coins."""
    check_row(asks, 0, MOST_ASKS, "asks")
    for one in asks:
        check_row(one, 2, 2, "asks")
        check_word(width, one[0], "asks")
        check_row(one[1], width, width, "asks")
        for mask in one[1]:
            check_word(coins, mask, "asks")


def check_trial(trial):
    """Refuse what is no Trial."""
    if not isinstance(trial, Trial):
        raise WrongKind("trial")


def check_coin_row(trial, coin_row):
    """Refuse what is no coin row of the trial."""
    check_word(trial.coins, coin_row, "coin_row")


def check_trial_and_table(trial, table):
    """Refuse what is no Trial with a Table of its width."""
    check_trial(trial)
    check_table(table, "table")
    if table.width != trial.width:
        raise WrongSize("table")


def coin_parity(mask, coin_row):
    """The parity of the set of coins at the coin row; both may be wider than the words of words.py."""
    left = mask & coin_row
    odd = 0
    while left > 0:
        odd = odd ^ (left & 1)
        left = left >> 1
    return odd


def words_with(trial, coin_row):
    """The words that the trial asks with a coin row that has been checked."""
    words = []
    for shift, masks in trial.asks:
        words.append(shift ^ word_of_bits([coin_parity(mask, coin_row) for mask in masks]))
    return words


def refuses(trial, answers):
    """True if the trial refuses upon these answers."""
    return trial.verdict[word_of_bits(answers)] == 1


def asked_words(trial, coin_row):
    """The list of the words that the trial asks with the coin row, in order."""
    check_trial(trial)
    check_coin_row(trial, coin_row)
    return words_with(trial, coin_row)


def refuses_table(trial, table, coin_row):
    """True if the trial refuses the table with the coin row; all have been checked."""
    return refuses(trial, [table[word] for word in words_with(trial, coin_row)])


def refusing_count(trial, table):
    """The number of the coin rows with which the trial refuses the table."""
    check_trial_and_table(trial, table)
    return len([row for row in range(1 << trial.coins) if refuses_table(trial, table, row)])


def refusing_share(trial, table):
    """The share of the coin rows with which the trial refuses the table, a ratio."""
    return ratio(refusing_count(trial, table), 1 << trial.coins)


def first_refusal(trial, table):
    """The least coin row with which the trial refuses the table, or None."""
    check_trial_and_table(trial, table)
    for row in range(1 << trial.coins):
        if refuses_table(trial, table, row):
            return row
    return None


def passing_share(trial, table, times=1):
    """(1 - refusing share)^times, a ratio."""
    check_trial_and_table(trial, table)
    check_range(times, 0, MOST_TIMES, "times")
    top, bottom = refusing_share(trial, table)
    return ratio_power((bottom - top, bottom), times)


def coin_masks(width, first):
    """The masks that put the coins from the coin first on at the places, one at each."""
    return [1 << (first + place) for place in range(width)]


def check_pair_width(width):
    """Refuse what is no width of words of which a coin row holds two."""
    check_width(width)
    if width > WIDEST_PAIR:
        raise OutOfRange("width")


def pair_trial(width):
    """The trial that asks x, y and x + y and refuses if the pair breaks the table."""
    check_pair_width(width)
    first = coin_masks(width, 0)
    second = coin_masks(width, width)
    both = [low | high for low, high in zip(first, second)]
    return Trial(width, 2 * width, [(0, first), (0, second), (0, both)], sum_table(3, 7))


def alike_trial(width):
    """The trial that asks x and y and refuses if their bits are unlike."""
    check_pair_width(width)
    asks = [(0, coin_masks(width, 0)), (0, coin_masks(width, width))]
    return Trial(width, 2 * width, asks, sum_table(2, 3))


def turn_trial(width, place):
    """The trial that asks x and x turned at the place and refuses if their bits are unlike."""
    check_width(width)
    check_place(width, place, "place")
    masks = coin_masks(width, 0)
    return Trial(width, width, [(0, masks), (1 << place, masks)], sum_table(2, 3))


def spot_trial(width, word, bit):
    """The trial that asks the word and refuses if the answer is not the bit."""
    check_width(width)
    check_word(width, word, "word")
    check_bit(bit, "bit")
    return Trial(width, 0, [(word, [0] * width)], place_table(1, 0, bit))
