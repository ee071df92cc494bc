"""Neighbours: a bound for the number of leaves, whatever the signs."""

from saidbetween.engine import all_lots
from saidbetween.fractions import reduced
from saidbetween.questions import MOST_ROWS, need_few_rows, need_question


def are_neighbours(row, other):
    """Whether two unlike rows are unlike in just one bit."""
    unlike = row ^ other
    return (unlike & (unlike - 1)) == 0


def neighbours(question):
    """The pairs (YES row, NO row) that are neighbours, ascending."""
    _, _, yes, no = need_question(question)
    return tuple([(row, other) for row in yes for other in no if are_neighbours(row, other)])


def neighbour_bound(question):
    """The FRACTION of the number of neighbours, squared, and the number of all pairs."""
    count = len(neighbours(question))
    return reduced(count * count, len(question[2]) * len(question[3]))


def best_neighbours(question):
    """The greatest such FRACTION of lots within YES and NO, and the least lots with it."""
    need_few_rows(need_question(question), MOST_ROWS)
    yes, no = question[2:]
    best = (-1, 1)
    lots = ()
    for some in all_lots(yes):
        degrees = {row: len([1 for other in some if are_neighbours(row, other)]) for row in no}
        for others in all_lots(no):
            count = sum([degrees[row] for row in others])
            fraction = (count * count, len(some) * len(others))
            more = fraction[0] * best[1] - best[0] * fraction[1]
            if more > 0 or (more == 0 and (some, others) < lots):
                best = fraction
                lots = (some, others)
    return (reduced(best[0], best[1]),) + lots
