"""Tables, formulas and trees put into others."""

from saidbetween.asks import MOST_TREES, need_tree
from saidbetween.errors import BadTable, TooGreat
from saidbetween.formulas import MOST_THINGS, need_formula, negation
from saidbetween.kinds import first_wrong_value, is_many, is_tuple, MOST_BITS
from saidbetween.questions import all_signs
from saidbetween.walks import depth, ends, is_branch, MOST_DEPTH


def need_table(table):
    """A TABLE: what was handed in, if it is one."""
    if not is_tuple(table, 2):
        raise BadTable(())
    many, values = table
    if not is_many(many):
        raise BadTable((0,))
    if not is_tuple(values, 1 << many):
        raise BadTable((1,))
    wrong = first_wrong_value(values)
    if wrong is not None:
        raise BadTable((1, wrong))
    return table


def need_together(many, inner_many):
    """How many bits both have put into one another, few enough."""
    if many * inner_many > MOST_BITS:
        raise TooGreat(MOST_BITS)
    return many * inner_many


def put_in(outer, inner):
    """The table of the outer one's values for what the inner one says of the blocks."""
    need_table(outer)
    need_table(inner)
    many = need_together(outer[0], inner[0])
    return (many, tuple([value_put(outer, inner, row) for row in range(1 << many)]))


def value_put(outer, inner, row):
    """The value of a row of two checked tables put into one another."""
    many, values = outer
    inner_many, inner_values = inner
    told = sum([
        inner_values[block_of(row, place, inner_many)] << place for place in range(many)
    ])
    return values[told]


def block_of(row, place, inner_many):
    """A block of a row."""
    return (row >> (place * inner_many)) & ((1 << inner_many) - 1)


def put_formula(many, formula, inner_many, inner):
    """The formula with the inner one, or its negation, in the place of each sign."""
    need_formula(any_question(many), formula)
    need_formula(any_question(inner_many), inner)
    need_together(many, inner_many)
    # As many "or" and "and" as signs, but one.
    if 2 * ends(formula) * ends(inner) - 1 > MOST_THINGS:
        raise TooGreat(MOST_THINGS)
    if depth(formula) + depth(inner) > MOST_DEPTH:
        raise TooGreat(MOST_DEPTH)
    return formula_put(formula, inner_many, inner)


def any_question(many):
    """A question with all signs of so many bits, which are checked: formulas are told of it."""
    return (many, all_signs(many), (0,), (1,))


def formula_put(formula, inner_many, inner):
    """Checked formulas put into one another."""
    if is_branch(formula):
        word, first, second = formula
        return (
            word, formula_put(first, inner_many, inner), formula_put(second, inner_many, inner)
        )
    place, bit = formula
    return moved(inner if bit == 1 else negation(inner), place * inner_many)


def moved(formula, places):
    """A checked formula of bits so many places further on."""
    if is_branch(formula):
        word, first, second = formula
        return (word, moved(first, places), moved(second, places))
    return (formula[0] + places, formula[1])


def put_tree(many, tree, inner_many, inner):
    """The tree that asks the inner one of a block for each bit that is asked."""
    need_tree(many, tree)
    need_tree(inner_many, inner)
    need_together(many, inner_many)
    bare = asked_once(tree, (None,) * many)
    inner_ends = ends_with_asks(inner, 0)
    if trees_put(bare, inner_ends) > MOST_TREES:
        raise TooGreat(MOST_TREES)
    if asks_put(bare, inner_ends) > MOST_DEPTH:
        raise TooGreat(MOST_DEPTH)
    return tree_put(bare, inner_many, inner)


def asked_once(tree, known):
    """A checked tree without the asks of bits that were asked above; `known` has what they are."""
    if not is_branch(tree):
        return tree
    _, place, within, without = tree
    if known[place] is not None:
        return asked_once(within if known[place] == 1 else without, known)
    high = known[:place] + (1,) + known[place + 1:]
    low = known[:place] + (0,) + known[place + 1:]
    return ("ask", place, asked_once(within, high), asked_once(without, low))


def ends_with_asks(tree, asks):
    """The pairs (ASKS, END) of all ends of a checked tree, so many asks ahead of it counted."""
    if not is_branch(tree):
        return [(asks, tree)]
    return ends_with_asks(tree[2], asks + 1) + ends_with_asks(tree[3], asks + 1)


def trees_put(tree, inner_ends):
    """How many trees there are if a tree with such ends is put in for each ask."""
    if not is_branch(tree):
        return 1
    behind = (trees_put(tree[3], inner_ends), trees_put(tree[2], inner_ends))
    return len(inner_ends) - 1 + sum([behind[end] for _, end in inner_ends])


def asks_put(tree, inner_ends):
    """The most asks on a way if a tree with such ends is put in for each ask."""
    if not is_branch(tree):
        return 0
    behind = (asks_put(tree[3], inner_ends), asks_put(tree[2], inner_ends))
    return max([asks + behind[end] for asks, end in inner_ends])


def tree_put(tree, inner_many, inner):
    """Checked trees put into one another, the outer one without bits asked again."""
    if not is_branch(tree):
        return tree
    _, place, within, without = tree
    behind = (tree_put(without, inner_many, inner), tree_put(within, inner_many, inner))
    return grafted(inner, place * inner_many, behind)


def grafted(tree, places, behind):
    """A checked tree of bits so many places further on, with others in the place of its ends."""
    if not is_branch(tree):
        return behind[tree]
    _, place, within, without = tree
    return (
        "ask", place + places, grafted(within, places, behind), grafted(without, places, behind)
    )
