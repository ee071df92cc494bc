"""Ranks modulo a prime: a bound for the number of leaves."""

from saidbetween.errors import BadParameter
from saidbetween.kinds import is_integer, is_tuple
from saidbetween.questions import is_so, need_parted, need_question

MOST_PRIME = 97
MOST_LINES = 60


def need_prime(prime, most):
    """A prime up to so much."""
    if not is_integer(prime, 2, most) or not is_prime(prime):
        raise BadParameter(prime)
    return prime


def is_prime(number):
    """Whether an integer from 2 on is a prime."""
    return all([number % divisor != 0 for divisor in range(2, number)])


def need_matrix(prime, matrix):
    """Lines of integers, unlike in nothing but these."""
    if type(matrix) is not tuple or not 1 <= len(matrix) <= MOST_LINES:
        raise BadParameter(matrix)
    first = matrix[0]
    if type(first) is not tuple or not 1 <= len(first) <= MOST_LINES:
        raise BadParameter(matrix)
    if not all([is_line(prime, len(first), line) for line in matrix]):
        raise BadParameter(matrix)
    return matrix


def is_line(prime, count, thing):
    """Whether a thing is a line of so many integers from 0 to below the prime."""
    return is_tuple(thing, count) and all([is_integer(one, 0, prime - 1) for one in thing])


def rank_modulo(prime, matrix):
    """The rank of a matrix modulo a prime."""
    need_prime(prime, MOST_PRIME)
    need_matrix(prime, matrix)
    return rank_of(prime, matrix)


def rank_of(prime, lines):
    """The rank modulo a prime of any lines of as many integers as one another."""
    # Each kept line leads at a place at which all lines behind it are freed of it.
    kept = []
    for line in lines:
        left = line
        for place, leader in kept:
            left = freed(prime, left, place, leader)
        places = [place for place, number in enumerate(left) if number != 0]
        if places:
            kept.append((places[0], left))
    return len(kept)


def freed(prime, line, place, leader):
    """A line, times something other than 0, less the leader as often as makes the place 0."""
    if line[place] == 0:
        return line
    times = leader[place]
    lead = line[place]
    return [(one * times - other * lead) % prime for one, other in zip(line, leader)]


def rank_bound(question, prime, matrix):
    """The least integer that, times the greatest rank of a sign's part, is at least the rank."""
    need_question(question)
    need_prime(prime, MOST_PRIME)
    need_matrix(prime, matrix)
    _, signs, yes, no = question
    if len(matrix) != len(yes) or len(matrix[0]) != len(no):
        raise BadParameter(matrix)
    need_parted(question)
    rank = rank_of(prime, matrix)
    if rank == 0:
        return 0
    # Some pair has an integer other than 0, and a sign parts it: not all parts have the rank 0.
    most = max([rank_of(prime, part_of(sign, yes, no, matrix)) for sign in signs])
    return (rank + most - 1) // most


def part_of(sign, yes, no, matrix):
    """The part of a matrix whose rows and columns the sign parts."""
    return [
        [number for number, other in zip(line, no) if not is_so(sign, other)]
        for line, row in zip(matrix, yes) if is_so(sign, row)
    ]
