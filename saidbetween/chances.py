"""Speeches drawn by chances: best answers, least chances, and what the worth is."""

from saidbetween.engine import Field, lot_of, partings_by
from saidbetween.errors import BadParameter, BadTalk, TooGreat
from saidbetween.exchange import begun_game, cell_numbers, know, lot_numbers
from saidbetween.fractions import common_divisor, is_fraction, is_less, NOUGHT, ONE, reduced
from saidbetween.fractions import whole_sum
from saidbetween.hands import columns_of_grid, GRID_HANDS, need_grid, need_speech, rows_of_grid
from saidbetween.kinds import is_integer, is_tuple
from saidbetween.walks import depth, way_of_both

MOST_CHANCE_LINES = 4
MOST_CHANCE_BITS = 2
MOST_MIXED = 400


def need_small_grid(grid):
    """A grid of few enough rows and columns."""
    need_grid(grid)
    if max(len(grid), len(grid[0])) > MOST_CHANCE_LINES:
        raise TooGreat(MOST_CHANCE_LINES)
    return grid


def need_chance_bits(bits):
    """A number of bits of which the worth is told."""
    if not is_integer(bits, 0, MOST_CHANCE_BITS):
        raise BadParameter(bits)
    return bits


def is_share(thing, least):
    """Whether a thing is a FRACTION that is not less than another one."""
    return is_fraction(thing) and not is_less(thing, least)


def is_odds(grid, thing):
    """Whether a thing is ODDS of the grid."""
    if not is_tuple(thing, len(grid)):
        return False
    for line in thing:
        if not is_tuple(line, len(grid[0])) or not all([is_share(one, NOUGHT) for one in line]):
            return False
    return whole_sum([one for line in thing for one in line]) == ONE


def is_mix(grid, bits, thing):
    """Whether a thing is a MIX for so many bits."""
    if type(thing) is not tuple or not 1 <= len(thing) <= MOST_MIXED:
        return False
    if not all([is_drawn(grid, bits, pair) for pair in thing]):
        return False
    return whole_sum([weight for weight, _ in thing]) == ONE


def is_drawn(grid, bits, thing):
    """Whether a thing is a pair (WEIGHT, SPEECH) that a MIX may have."""
    if not is_tuple(thing, 2) or not is_share(thing[0], NOUGHT) or thing[0] == NOUGHT:
        return False
    try:
        need_speech(grid, thing[1])
    except (BadTalk, TooGreat):
        return False
    return depth(thing[1]) <= bits


def cells_of_grid(grid):
    """All cells, ascending."""
    return [(row, column) for row in rows_of_grid(grid) for column in columns_of_grid(grid)]


def is_right(grid, speech, cell):
    """Whether a checked speech is right at a cell."""
    row, column = cell
    return way_of_both(speech, row, column)[1] == grid[row][column]


def best_speech(grid, bits, odds):
    """The greatest share of being right under the odds, and a speech that has it."""
    need_small_grid(grid)
    need_chance_bits(bits)
    if not is_odds(grid, odds):
        raise BadParameter(odds)
    told = [one for line in odds for one in line]
    divisor = common_divisor(told)
    number, speech = best_by_numbers(grid, bits, over_divisor(told, divisor))
    return (reduced(number, divisor), speech)


def over_divisor(fractions, divisor):
    """The integers that some FRACTIONS are over a common divisor."""
    return [number * (divisor // own) for number, own in fractions]


def best_by_numbers(grid, bits, numbers):
    """The greatest sum of the numbers of cells at which a speech is right, and such a speech."""
    rows = rows_of_grid(grid)
    columns = columns_of_grid(grid)
    ends = [
        [best_end(grid, numbers, lot_of(rows, some), lot_of(columns, others))
         for others in range(1 << len(columns))]
        for some in range(1 << len(rows))
    ]
    field = Field(GRID_HANDS, rows, columns, ends)
    return best_within(field, {}, bits, len(ends) - 1, len(ends[0]) - 1)


def best_end(grid, numbers, rows, columns):
    """The greatest sum of the cells of a rectangle that have one integer, and this integer."""
    sums = {}
    for row in rows:
        for column in columns:
            one = grid[row][column]
            sums[one] = sums.get(one, 0) + numbers[row * len(grid[0]) + column]
    return max([(number, one) for one, number in sums.items()] + [(0, 0)])


def best_within(field, known, bits, rows, columns):
    """The greatest sum that a speech of so many bits has in a rectangle, and such a speech."""
    at = (bits, rows, columns)
    if at not in known:
        best = field.ends[rows][columns]
        if bits > 0:
            for choice in both_partings(field, rows, columns):
                hand, lot, first, second = choice
                one = best_within(field, known, bits - 1, first[0], first[1])
                other = best_within(field, known, bits - 1, second[0], second[1])
                if one[0] + other[0] > best[0]:
                    best = (one[0] + other[0], (hand, lot, one[1], other[1]))
        known[at] = best
    return known[at]


def both_partings(field, rows, columns):
    """The partings of the rows and of the columns of a rectangle."""
    return [
        choice for hand in field.hands for choice in partings_by(field, hand, rows, columns)
    ]


def least_chance(grid, bits, mix):
    """The least chance of being right, and the first row and column that have it."""
    need_small_grid(grid)
    need_chance_bits(bits)
    if not is_mix(grid, bits, mix):
        raise BadParameter(mix)
    divisor = common_divisor([weight for weight, _ in mix])
    least, cell = min([(chance_at(grid, mix, divisor, one), one) for one in cells_of_grid(grid)])
    return (reduced(least, divisor), cell)


def chance_at(grid, mix, divisor, cell):
    """The chance of being right at a cell, over a common divisor of the weights."""
    right = [weight for weight, speech in mix if is_right(grid, speech, cell)]
    return sum(over_divisor(right, divisor))


def worth(grid, bits):
    """The greatest chance of being right that can be, a mix that has it, and odds against more."""
    need_small_grid(grid)
    need_chance_bits(bits)
    speeches = sorted({one for line in grid for one in line})
    cells = cells_of_grid(grid)
    game = begun_game(len(cells), [right_lot(grid, cells, speech) for speech in speeches])
    number, speech = best_by_numbers(grid, bits, cell_numbers(game))
    # A known speech is right with no more than the divisor; a better one is not known yet.
    while number > game.divisor:
        speeches.append(speech)
        know(game, right_lot(grid, cells, speech))
        number, speech = best_by_numbers(grid, bits, cell_numbers(game))
    return told_worth(grid, game, speeches)


def right_lot(grid, cells, speech):
    """The mask of the cells at which a speech is right."""
    return sum([1 << at for at, cell in enumerate(cells) if is_right(grid, speech, cell)])


def told_worth(grid, game, speeches):
    """The triple of a game in which no speech is better than those that are known."""
    whole = game.goal[-1]
    mix = [(reduced(number, whole), speeches[lot]) for lot, number in lot_numbers(game)]
    odds = [reduced(number, whole) for number in cell_numbers(game)]
    width = len(grid[0])
    lines = [tuple(odds[row * width:(row + 1) * width]) for row in rows_of_grid(grid)]
    return (reduced(game.divisor, whole), tuple(mix), tuple(lines))


def is_worth(grid, bits, value):
    """Whether a value is a triple as `worth` tells it."""
    need_small_grid(grid)
    need_chance_bits(bits)
    if not is_tuple(value, 3):
        return False
    share, mix, odds = value
    if not is_fraction(share) or not is_mix(grid, bits, mix) or not is_odds(grid, odds):
        return False
    return least_chance(grid, bits, mix)[0] == share and (
        not is_less(share, best_speech(grid, bits, odds)[0])
    )
