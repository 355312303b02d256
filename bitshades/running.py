"""What each line of a script does with the tables that a book holds (point 51).

`held` is a dict from each name to the tuple of its table and the tuple of its
papers. No function changes it: each returns the tuple of the answer of the line
and the dict that is held behind it.
"""

from bitshades.asking import Asked
from bitshades.errors import NameTaken, OutOfRange, TooFewPlaces, UnknownName, WrongPaper, WrongSize
from bitshades.learning import learn_few
from bitshades.mending import mended
from bitshades.notation import format_ratio, format_set, format_word, parse_ratio, parse_set, parse_word
from bitshades.pairs import breaking_share, is_sum_paper, sum_paper
from bitshades.parting import with_turned_bit
from bitshades.scripts import slots_behind
from bitshades.shades import heavy, shades
from bitshades.tables import Table
from bitshades.votes import ring_paper, ring_share_by_shades
from bitshades.words import MOST_WIDTH


def check_names(held, pieces):
    """Refuse a name that must have a table and has none, then one that must have none and has one."""
    names = list(zip(slots_behind(pieces), pieces[1:]))
    for slot, name in names:
        if slot == "name" and name not in held:
            raise UnknownName(name)
    for slot, name in names:
        if slot == "new" and name in held:
            raise NameTaken(name)


def kept(held, name, table):
    """The answer and what is held where the table is kept under the name, without papers."""
    return (str(table), {**held, name: (table, ())})


def tables_in(held, names):
    """The list of the tables of the names; refuses tables of unlike widths."""
    tables = [held[name][0] for name in names]
    if max([table.width for table in tables]) > min([table.width for table in tables]):
        raise WrongSize("line")
    return tables


def word_in(table, piece):
    """The word that the piece is the written form of; refuses one of another width than the table."""
    width, word = parse_word(piece)
    if width != table.width:
        raise WrongSize("line")
    return word


def run_table(held, pieces):
    """Keep the table that is written in the line."""
    return kept(held, pieces[1], Table.of_text(pieces[2]))


def run_drop(held, pieces):
    """Drop the table and its papers."""
    return ("dropped", {name: held[name] for name in held if name != pieces[1]})


def run_sum(held, pieces):
    """Keep the sum of two tables."""
    first, second = tables_in(held, pieces[1:3])
    return kept(held, pieces[3], first + second)


def run_mend(held, pieces):
    """Keep the mended table."""
    return kept(held, pieces[2], mended(held[pieces[1]][0]))


def run_turn(held, pieces):
    """Replace the table by the one with a bit turned."""
    table = held[pieces[1]][0]
    return kept(held, pieces[1], with_turned_bit(table, word_in(table, pieces[2])))


def told_shades(table):
    """The written forms of all shades of the table."""
    return " ".join([format_ratio(item) for item in shades(table)])


def told_test(table):
    """The written forms of the breaking share and of the right sum paper of the table."""
    share = format_ratio(breaking_share(table))
    paper = sum_paper(table)
    if paper[0] == "sum":
        return f"{share} sum {format_set(table.width, paper[1])}"
    return f"{share} break {format_word(table.width, paper[1])} {format_word(table.width, paper[2])}"


def run_shades(held, pieces):
    """Tell the shades of the table."""
    return (told_shades(held[pieces[1]][0]), held)


def run_test(held, pieces):
    """Tell whether the table is a sum-table."""
    return (told_test(held[pieces[1]][0]), held)


def run_each(held, pieces):
    """Tell the shades of each table, or whether it is a sum-table."""
    tables = [held[name][0] for name in pieces[2:]]
    answers = [told_shades(table) if pieces[1] == "shades" else told_test(table) for table in tables]
    return ("; ".join(answers), held)


def run_near(held, pieces):
    """Tell the sets whose squared shade is at least the ratio."""
    table = held[pieces[1]][0]
    top, bottom = parse_ratio(pieces[2])
    if top <= 0 or top > bottom:
        raise OutOfRange("line")
    sets = heavy(table, (top, bottom))
    if not sets:
        return ("none", held)
    return (" ".join([format_set(table.width, chosen) for chosen in sets]), held)


def run_learn(held, pieces):
    """Learn the table by asking it, if few places of it count."""
    table = held[pieces[1]][0]
    asked = Asked(table)
    try:
        chosen, part, _ = learn_few(asked, int(pieces[2]))
    except TooFewPlaces:
        return (f"more than {pieces[2]}", held)
    return (f"{format_set(table.width, chosen)} {part} asks {asked.asks}", held)


def run_votes(held, pieces):
    """Tell how often a vote by the three tables ends in a ring, and why."""
    first, second, third = tables_in(held, pieces[1:4])
    share = format_ratio(ring_share_by_shades(first, second, third))
    paper = ring_paper(first, second, third)
    if paper[0] == "ring":
        return (f"{share} ring", held)
    return (f"{share} {paper[0]} {paper[1]} {paper[2]}", held)


def paper_in(table, pieces):
    """The sum paper that is written in the line; refuses one with words or places that the table lacks."""
    if pieces[2] == "break":
        return ("break", word_in(table, pieces[3]), word_in(table, pieces[4]))
    chosen = parse_set(MOST_WIDTH, pieces[3])
    if chosen >= len(table):
        raise WrongSize("line")
    return ("sum", chosen)


def run_paper(held, pieces):
    """File the sum paper, if it is right."""
    name = pieces[1]
    table, papers = held[name]
    if not is_sum_paper(table, paper_in(table, pieces)):
        raise WrongPaper(name)
    return ("filed", {**held, name: (table, papers + (" ".join(pieces[2:]),))})


RUNS = {
    "table": run_table,
    "drop": run_drop,
    "sum": run_sum,
    "mend": run_mend,
    "turn": run_turn,
    "shades": run_shades,
    "near": run_near,
    "test": run_test,
    "learn": run_learn,
    "votes": run_votes,
    "paper": run_paper,
    "each": run_each,
}


def run_pieces(held, pieces):
    """Run the line of these pieces."""
    check_names(held, pieces)
    runs = RUNS[pieces[0]]
    return runs(held, pieces)
