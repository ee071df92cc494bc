"""No fewer asks: what tables put into one another need."""

from saidbetween.asks import FREE, is_tree_for, least_asks, MOST_ASKED_BITS, need_tree, shown_asks
from saidbetween.asks import way_through
from saidbetween.errors import BadBook, BadParameter, TooGreat
from saidbetween.inside import put_in, put_tree
from saidbetween.kinds import is_tuple
from saidbetween.walks import depth


def need_small_tables(outer, inner):
    """The table put in of two tables of few enough bits."""
    table = put_in(outer, inner)
    if max(outer[0], inner[0]) > MOST_ASKED_BITS:
        raise TooGreat(MOST_ASKED_BITS)
    return table


def put_paper(outer, inner):
    """The fewest asks of the table put in, a tree with so many, and books of both tables."""
    need_small_tables(outer, inner)
    asks, tree, book = least_asks(outer[0], outer[1])
    inner_asks, inner_tree, inner_book = least_asks(inner[0], inner[1])
    whole = put_tree(outer[0], tree, inner[0], inner_tree)
    return (asks * inner_asks, whole, book, inner_book)


def is_put_paper(outer, inner, value):
    """Whether a value is such as `put_paper` tells it."""
    many, values = need_small_tables(outer, inner)
    if not is_tuple(value, 4) or type(value[0]) is not int:
        return False
    asks, tree, book, inner_book = value
    if not is_tree_for(many, values, tree) or depth(tree) > asks:
        return False
    return asks in [
        one * other
        for one in shown_asks(outer[0], outer[1], book)
        for other in shown_asks(inner[0], inner[1], inner_book)
    ]


def long_row(outer, inner, book, inner_book, tree):
    """A row for which a tree for the table put in asks as many unlike bits as both books show."""
    many, values = put_in(outer, inner)
    need_whole_book(outer, book)
    need_whole_book(inner, inner_book)
    need_tree(many, tree)
    if not is_tree_for(many, values, tree):
        raise BadParameter(tree)
    # Some row has so many: so has the one with the most.
    return max(list(range(1 << many)), key=lambda row: unlike_asks(tree, row))


def need_whole_book(table, book):
    """A book of cubes of a checked table with an entry with all bits free, or ()."""
    many, values = table
    if len(shown_asks(many, values, book)) == 0:
        raise BadBook(book)
    if len(book) > 0 and (FREE,) * many not in [cube for _, cube in book]:
        raise BadBook(book)
    return book


def unlike_asks(tree, row):
    """How many unlike bits a checked tree asks for a row."""
    return len({place for place, _ in way_through(tree, row)[0]})
