"""Trees of asks, and the fewest asks."""

from saidbetween.errors import BadParameter, BadTree, TooGreat
from saidbetween.kinds import is_integer, is_set_of_entries, is_tuple, is_word
from saidbetween.kinds import need_many, need_row, need_values
from saidbetween.walks import BRANCH, depth, END, first_fault, is_branch, LABEL, WRONG

MOST_TREES = 600
MOST_ASKED_BITS = 6
FREE = 2
# Which values rows of a cube have: a mask, 1 for the value 0 and 2 for the value 1.
BOTH_VALUES = 3


def need_tree(many, tree):
    """A tree of asks: what was handed in, if it is one."""
    path = first_fault(need_many(many), tree, MOST_TREES, kind_of_tree)
    if path is not None:
        raise BadTree(path)
    return tree


def kind_of_tree(many, thing):
    """What a thing is on the walk through a tree."""
    if is_integer(thing, 0, 1):
        return END
    if not is_tuple(thing, 4) or not is_word(thing[0], ("ask",)):
        return WRONG
    return BRANCH if is_integer(thing[1], 0, many - 1) else LABEL


def asked(many, tree, row):
    """Which bits of a row are asked, with what they are, and the value at the end."""
    need_tree(many, tree)
    need_row(many, row)
    return way_through(tree, row)


def way_through(tree, row):
    """The way of a row through a checked tree, and its end."""
    out = []
    while is_branch(tree):
        _, place, within, without = tree
        bit = (row >> place) & 1
        out.append((place, bit))
        tree = within if bit == 1 else without
    return (tuple(out), tree)


def asks_of(many, tree):
    """The most asks on a way to an end."""
    return depth(need_tree(many, tree))


def is_tree_for(many, values, value):
    """Whether a value is a tree that ends, for each row, with the row's value."""
    need_many(many)
    need_values(many, values)
    try:
        need_tree(many, value)
    except (BadTree, TooGreat):
        return False
    return all([way_through(value, row)[1] == told for row, told in enumerate(values)])


def all_cubes(many):
    """All cubes, each behind those that lie in it."""
    cubes = [()]
    for _ in range(many):
        cubes = [cube + (bit,) for cube in cubes for bit in (0, 1, FREE)]
    return cubes


def free_bits(cube):
    """The bits that are free in a cube."""
    return [place for place, bit in enumerate(cube) if bit == FREE]


def halves_at(cube, place):
    """Both halves of a cube, where a free bit is 0 and where it is 1."""
    return (cube[:place] + (0,) + cube[place + 1:], cube[:place] + (1,) + cube[place + 1:])


def row_of(cube):
    """The row of a cube without free bits."""
    return sum([bit << place for place, bit in enumerate(cube)])


def values_in_cubes(many, values):
    """For each cube which values its rows have."""
    found = {}
    for cube in all_cubes(many):
        free = free_bits(cube)
        if free:
            low, high = halves_at(cube, free[0])
            found[cube] = found[low] | found[high]
        else:
            found[cube] = 1 << values[row_of(cube)]
    return found


def least_in_cubes(many, values):
    """For each cube the fewest asks that tell the values of its rows."""
    kinds = values_in_cubes(many, values)
    least = {}
    for cube in all_cubes(many):
        if kinds[cube] == BOTH_VALUES:
            least[cube] = 1 + min([asks_behind(least, cube, place) for place in free_bits(cube)])
        else:
            least[cube] = 0
    return least


def asks_behind(least, cube, place):
    """The fewest asks that tell the greater half behind an ask of this bit."""
    low, high = halves_at(cube, place)
    return max(least[low], least[high])


def need_small_table(many, values):
    """The values of a table of few enough bits."""
    need_many(many)
    need_values(many, values)
    if many > MOST_ASKED_BITS:
        raise TooGreat(MOST_ASKED_BITS)
    return values


def least_asks(many, values):
    """The fewest asks for a table, a tree with so many, and a book that fewer will not do."""
    need_small_table(many, values)
    least = least_in_cubes(many, values)
    whole = (FREE,) * many
    return (least[whole], tree_by(least, values, whole), book_by(least, whole))


def tree_by(least, values, cube):
    """A tree with the fewest asks for the rows of a cube."""
    if least[cube] == 0:
        return values[row_of([0 if bit == FREE else bit for bit in cube])]
    place = min([(asks_behind(least, cube, bit), bit) for bit in free_bits(cube)])[1]
    low, high = halves_at(cube, place)
    return ("ask", place, tree_by(least, values, high), tree_by(least, values, low))


def book_by(least, whole):
    """A book of cubes that the whole one needs as many asks as it does."""
    book = {}
    fresh = [(least[whole] - 1, whole)] if least[whole] > 0 else []
    while fresh:
        asks, cube = fresh.pop()
        if (asks, cube) in book:
            continue
        book[(asks, cube)] = True
        if asks > 0:
            # The greater half of a cube that needs more than ASKS asks needs more than ASKS - 1.
            for place in free_bits(cube):
                low, high = halves_at(cube, place)
                fresh.append((asks - 1, low if least[low] >= least[high] else high))
    return tuple(sorted(book))


def is_cube_book(many, values, asks, value):
    """Whether a value is a book of cubes that the table needs so many asks."""
    need_many(many)
    need_values(many, values)
    if type(asks) is not int or asks < 0:
        raise BadParameter(asks)
    return asks in shown_asks(many, values, value)


def shown_asks(many, values, value):
    """The ASKS that a value shows, as a book of cubes of a checked table; none if it is no book."""
    if not is_set_of_entries(many, value, is_entry):
        return []
    if len(value) == 0:
        return [0]
    return sorted({asks + 1 for asks, _ in value}) if all_stand(many, values, value) else []


def is_entry(many, thing):
    """Whether a thing is a pair (ASKS, CUBE)."""
    if not is_tuple(thing, 2) or type(thing[0]) is not int or thing[0] < 0:
        return False
    return is_tuple(thing[1], many) and all([is_integer(bit, 0, FREE) for bit in thing[1]])


def all_stand(many, values, book):
    """Whether each entry of a book stands."""
    # An entry with ASKS rests on one with fewer ASKS and fewer free bits, and so on down to
    # both values, for which one more is free: so none that stands has as many ASKS as free bits.
    if not all([asks < len(free_bits(cube)) for asks, cube in book]):
        return False
    kinds = values_in_cubes(many, values)
    most = max([asks for asks, _ in book])
    shown = [cubes_with_some(many, book, asks) for asks in range(most)]
    return all([stands(kinds, shown, asks, cube) for asks, cube in book])


def cubes_with_some(many, book, asks):
    """For each cube whether some entry with so many ASKS lies in it."""
    told = {cube: True for entry_asks, cube in book if entry_asks == asks}
    found = {}
    for cube in all_cubes(many):
        found[cube] = cube in told or any([
            found[half] for place in free_bits(cube) for half in halves_at(cube, place)
        ])
    return found


def stands(kinds, shown, asks, cube):
    """Whether an entry stands, told for each ASKS which cubes have some entry in them."""
    if asks == 0:
        return kinds[cube] == BOTH_VALUES
    below = shown[asks - 1]
    return all([
        any([below[half] for half in halves_at(cube, place)]) for place in free_bits(cube)
    ])
