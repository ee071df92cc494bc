"""Exact exchange steps: the odds against known lots of cells, and the best mix of these.

Each cell has a number from nought on. Of these numbers that have at most one together on each
known lot, those are looked for that have the most together: over this sum they are the odds,
and what each lot is worth to the sum is, over it, the lot's weight in the mix.
"""


class Game:
    """The lines of exchange, all over one divisor, behind the last step.

    A name below `count` is a cell, one from there on a lot. `heads` are the names that are
    nought, `names` those that the lines tell: a line has what its name loses for each head, and
    last what it has if all heads are nought. `goal` is such a line of the sum.
    """

    def __init__(self, count):
        self.count = count
        self.lots = 0
        self.heads = list(range(count))
        self.names = []
        self.lines = []
        self.goal = [-1] * count + [0]
        self.divisor = 1


def begun_game(count, parts):
    """The game of so many cells in which these lots are known, which part the cells."""
    game = Game(count)
    for lot in parts:
        put_line(game, lot)
        # The first cell of the lot takes the one that all of it may have together.
        exchange(game, len(game.lines) - 1, game.heads.index(cells_in(count, lot)[0]))
    return game


def cells_in(count, lot):
    """The cells of a lot, which is a mask."""
    return [cell for cell in range(count) if (lot >> cell) & 1]


def put_line(game, lot):
    """One more lot is known: its line tells what its cells leave of one."""
    cells = cells_in(game.count, lot)
    line = [game.divisor if head in cells else 0 for head in game.heads] + [game.divisor]
    for name, other in zip(game.names, game.lines):
        if name in cells:
            line = [one - less for one, less in zip(line, other)]
    game.names.append(game.count + game.lots)
    game.lines.append(line)
    game.lots += 1


def exchange(game, at, place):
    """One step: the name of a line and a head change places."""
    lead = game.lines[at]
    divisor = game.divisor
    lines = [line_behind(line, lead, place, divisor) for line in game.lines]
    lines[at] = lead_behind(lead, place, divisor)
    game.lines = lines
    game.goal = line_behind(game.goal, lead, place, divisor)
    game.divisor = abs(lead[place])
    name = game.names[at]
    game.names[at] = game.heads[place]
    game.heads[place] = name


def line_behind(line, lead, place, divisor):
    """A line behind a step."""
    # Over the new divisor all are integers again: the old one divides without a rest.
    sign = 1 if lead[place] > 0 else -1
    out = [
        sign * (one * lead[place] - line[place] * other) // divisor
        for one, other in zip(line, lead)
    ]
    out[place] = -sign * line[place]
    return out


def lead_behind(lead, place, divisor):
    """The line whose name was exchanged, behind the step."""
    sign = 1 if lead[place] > 0 else -1
    out = [sign * one for one in lead]
    out[place] = sign * divisor
    return out


def know(game, lot):
    """One more lot is known, and the steps are taken that it wants."""
    put_line(game, lot)
    # Nothing may be below nought. The least names are taken, so that no step comes back.
    below = names_below(game)
    while below:
        at = game.names.index(min(below))
        exchange(game, at, entering(game, game.lines[at]))
        below = names_below(game)


def names_below(game):
    """The names whose numbers are below nought."""
    return [name for name, line in zip(game.names, game.lines) if line[-1] < 0]


def entering(game, line):
    """The place of the head that lessens the goal least for what the line's name wins."""
    best = None
    for place in range(game.count):
        if line[place] < 0 and (best is None or is_better(game, line, place, best)):
            best = place
    return best


def is_better(game, line, place, other):
    """Whether one head is to be exchanged ahead of another one."""
    more = game.goal[other] * line[place] - game.goal[place] * line[other]
    return more < 0 or (more == 0 and game.heads[place] < game.heads[other])


def cell_numbers(game):
    """For each cell its number times the divisor."""
    numbers = [0] * game.count
    for name, line in zip(game.names, game.lines):
        if name < game.count:
            numbers[name] = line[-1]
    return numbers


def lot_numbers(game):
    """The pairs (LOT, NUMBER) of what lots are worth, times the divisor, above nought."""
    return sorted([
        (head - game.count, number)
        for head, number in zip(game.heads, game.goal)
        if head >= game.count and number > 0
    ])
