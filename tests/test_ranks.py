"""[40]: ranks modulo a prime, and the bound that they give for the number of leaves."""

import itertools
import unittest

from saidbetween.errors import BadParameter, NoTalk
from saidbetween.ranks import rank_bound, rank_modulo
from saidbetween.sizes import least_leaves
from tests.brute import can_questions, LONE, LONE_PAIR, parts_pair, TWELVE
from tests.helpers import (
    all_signs_of, Case, Dice, EXAMPLE, QUESTION_REFUSALS, STRANGE, Touchy,
)

PRIMES = (2, 3, 5, 7, 11, 13, 17, 19, 23, 29, 31, 37, 41, 43, 47, 53, 59, 61, 67, 71, 73, 79, 83, 89,
          97)
UNIT = ((1, 0), (0, 1))

PRIME_REFUSALS = [(prime, BadParameter, {"value": prime})
                  for prime in (0, 1, 4, 9, 91, 49, 98, 101, -2, -3, True, False, None, 2.0, "2", (2,),
                                Touchy(), 10 ** 40)]
WRONG_MATRICES = [
    None, 1, "", (), [], ((),), ((), ()), [(1, 0), (0, 1)], ([1, 0], (0, 1)), ((1, 0), [0, 1]),
    ((1, 0), (1,)), ((1,), (1, 0)), ((1, 0), (0, 1, 0)), ((1, 0), (0, 2)), ((-1, 0), (0, 1)),
    ((True, 0), (0, 1)), ((1, 0), (False, 1)), ((1, 0), (0, 1.0)), ((1, 0), (0, None)), (1, 0),
    ((1, 0), Touchy()), (Touchy(), (0, 1)), ((1, 0), (0, Touchy())), (UNIT,), ((1, 0), (10 ** 40, 1)),
    ((1,),) * 61, ((1,) * 61,), ((1,) * 61,) * 61,
]
MATRIX_REFUSALS = [(matrix, BadParameter, {"value": matrix}) for matrix in WRONG_MATRICES]


def determinant(rows):
    if not rows:
        return 1
    return sum((-1) ** at * number * determinant([row[:at] + row[at + 1:] for row in rows[1:]])
               for at, number in enumerate(rows[0]) if number)


def rank_by_determinants(prime, matrix):
    """The size of the greatest square part with a determinant other than 0."""
    for size in range(min(len(matrix), len(matrix[0])), 0, -1):
        for rows in itertools.combinations(matrix, size):
            for places in itertools.combinations(range(len(matrix[0])), size):
                if determinant([tuple(row[at] for at in places) for row in rows]) % prime:
                    return size
    return 0


def thrown_matrix(dice, prime, rows, columns):
    """Some matrix, of a rank that may be less than it could be."""
    out = []
    for at in range(rows):
        if out and dice.below(3) == 0:
            one, other = out[dice.below(at)], out[dice.below(at)]
            times = dice.below(prime)
            out.append(tuple((a + times * b) % prime for a, b in zip(one, other)))
        else:
            out.append(tuple(dice.below(prime) * dice.below(2) for _ in range(columns)))
    return tuple(out)


class RankTest(Case):

    def test_by_determinants(self):
        dice = Dice(131)
        seen = set()
        for prime in PRIMES:
            for _ in range(12):
                matrix = thrown_matrix(dice, prime, 1 + dice.below(5), 1 + dice.below(5))
                rank = rank_modulo(prime, matrix)
                self.assertEqual(rank, rank_by_determinants(prime, matrix))
                seen.add(rank)
        self.assertLessEqual({0, 1, 2, 3, 4}, seen)

    def test_all_small_ones(self):
        for prime in (2, 3):
            for numbers in itertools.product(range(prime), repeat=6):
                for matrix in ((numbers[:3], numbers[3:]), (numbers[:2], numbers[2:4], numbers[4:])):
                    self.assertEqual(rank_modulo(prime, matrix), rank_by_determinants(prime, matrix))

    def test_unlike_for_unlike_primes(self):
        matrix = ((1, 2, 0), (0, 1, 2), (2, 0, 1))
        self.assertEqual([rank_modulo(prime, matrix) for prime in (3, 5, 7)], [2, 3, 3])
        hollow = ((0, 1, 1), (1, 0, 1), (1, 1, 0))
        self.assertEqual([rank_modulo(prime, hollow) for prime in (2, 3, 5)], [2, 3, 3])
        self.assertEqual(rank_modulo(2, ((1, 1), (1, 1))), 1)
        self.assertEqual(rank_modulo(2, ((0,),)), 0)

    def test_sizes(self):
        self.assertEqual(rank_modulo(97, ((96,),)), 1)
        for prime in (2, 97):
            unit = tuple(tuple(int(row == at) for at in range(60)) for row in range(60))
            self.assertEqual(rank_modulo(prime, unit), 60)
            self.assertEqual(rank_modulo(prime, unit[:59] + unit[:1]), 59)
            self.assertEqual(rank_modulo(prime, ((prime - 1,) * 60,) * 60), 1)
            self.assertEqual(rank_modulo(prime, ((0,) * 60,) * 60), 0)
            self.assertEqual(rank_modulo(prime, ((1,) * 60,)), 1)
            self.assertEqual(rank_modulo(prime, ((1,),) * 60), 1)
        powers = tuple(tuple(pow(row, at, 97) for at in range(60)) for row in range(60))
        self.assertEqual(rank_modulo(97, powers), 60)
        self.assertEqual(rank_modulo(97, tuple(zip(*powers))), 60)

    def test_integers_up_to_the_prime(self):
        for prime in PRIMES:
            self.assertEqual(rank_modulo(prime, ((prime - 1, 0), (0, prime - 1))), 2)
            for number in (prime, prime + 1, -1, True):
                wrong = ((0, 0), (0, number))
                self.refused(BadParameter, {"value": wrong}, rank_modulo, prime, wrong)

    def test_refused_in_order(self):
        self.check_calls(rank_modulo, ("prime", "matrix"), (2, UNIT),
                         [PRIME_REFUSALS, MATRIX_REFUSALS])
        for value in STRANGE:
            # One of the strange things is a matrix.
            if not (type(value) is tuple and len(value) == 1 and type(value[0]) is tuple
                    and value[0] == (0, 1)):
                self.refused(BadParameter, {"value": value}, rank_modulo, 2, value)
            self.refused(BadParameter, {"value": value}, rank_modulo, value, UNIT)
            wrong = ((0, value), (1, 1))
            self.refused(BadParameter, {"value": wrong}, rank_modulo, 2, wrong)
        for prime in range(-3, 110):
            if prime in PRIMES:
                self.assertEqual(rank_modulo(prime, UNIT), 2)
            else:
                self.refused(BadParameter, {"value": prime}, rank_modulo, prime, UNIT)


class RankBoundTest(Case):

    def wanted(self, question, prime, matrix):
        """By the words of [40]."""
        _, signs, yes, no = question
        rank = rank_by_determinants(prime, matrix)
        if rank == 0:
            return 0
        ranks = []
        for sign in signs:
            rows = [at for at, row in enumerate(yes) if parts_pair(sign, (row,), ())]
            columns = [at for at, row in enumerate(no) if parts_pair(sign, (), (row,))]
            part = [tuple(matrix[row][column] for column in columns) for row in rows]
            ranks.append(rank_by_determinants(prime, part) if rows and columns else 0)
        return -(-rank // max(ranks))

    def test_by_the_words(self):
        dice = Dice(132)
        seen = set()
        for question in can_questions(dice, 60, 8):
            for prime in (2, 3, 97):
                matrix = thrown_matrix(dice, prime, len(question[2]), len(question[3]))
                bound = rank_bound(question, prime, matrix)
                self.assertEqual(bound, self.wanted(question, prime, matrix))
                seen.add(bound)
        self.assertLessEqual({0, 1, 2}, seen)

    def test_example(self):
        self.assertEqual(rank_bound(EXAMPLE, 2, UNIT), 2)
        self.assertEqual(rank_bound(EXAMPLE, 2, ((0, 0), (0, 0))), 0)
        self.assertEqual(rank_bound(EXAMPLE, 2, ((1, 1), (1, 1))), 1)

    def test_rounded_up(self):
        question = (4, all_signs_of(4), (1, 2, 4), (0, 3, 5))
        matrix = ((1, 0, 0), (0, 1, 0), (0, 0, 1))
        self.assertEqual(rank_bound(question, 5, matrix), 2)
        self.assertEqual(self.wanted(question, 5, matrix), 2)

    def test_at_most_the_leaves(self):
        dice = Dice(133)
        for question in can_questions(dice, 40, 8) + [TWELVE]:
            leaves = least_leaves(question)[0]
            for prime in (2, 5):
                matrix = thrown_matrix(dice, prime, len(question[2]), len(question[3]))
                self.assertLessEqual(rank_bound(question, prime, matrix), leaves)

    def test_sixty_rows_and_more(self):
        odd = tuple(row for row in range(256) if bin(row).count("1") % 2)
        even = tuple(row for row in range(256) if bin(row).count("1") % 2 == 0)
        unit = tuple(tuple(int(row == at) for at in range(60)) for row in range(60))
        question = (8, all_signs_of(8), odd[:60], even[:60])
        self.assertEqual(rank_bound(question, 2, unit), 2)
        for yes, no in ((61, 60), (60, 61), (61, 1), (128, 128)):
            question = (8, all_signs_of(8), odd[:yes], even[:no])
            for matrix in (unit, tuple((1,) * no for _ in range(yes)), ((1,) * 60,) * 60):
                self.refused(BadParameter, {"value": matrix}, rank_bound, question, 2, matrix)

    def test_matrices_of_another_shape(self):
        for matrix in (((1,),), ((1, 0),), ((1,), (0,)), ((1, 0, 0), (0, 1, 0)), ((1, 0),) * 3):
            self.refused(BadParameter, {"value": matrix}, rank_bound, EXAMPLE, 2, matrix)
        question = (2, EXAMPLE[1], (1,), (0, 2, 3))
        self.assertEqual(rank_bound(question, 2, ((1, 0, 1),)), 1)
        wrong = ((1,), (0,), (1,))
        self.refused(BadParameter, {"value": wrong}, rank_bound, question, 2, wrong)

    def test_refused_in_order(self):
        self.check_calls(rank_bound, ("question", "prime", "matrix"), (EXAMPLE, 2, UNIT),
                         [QUESTION_REFUSALS, PRIME_REFUSALS, MATRIX_REFUSALS])
        self.refused(NoTalk, {"pair": LONE_PAIR}, rank_bound, LONE, 2, UNIT)
        self.refused(NoTalk, {"pair": LONE_PAIR}, rank_bound, LONE, 2, ((0, 0), (0, 0)))
        self.refused(BadParameter, {"value": ((1,),)}, rank_bound, LONE, 2, ((1,),))
        self.refused(BadParameter, {"value": 4}, rank_bound, LONE, 4, None)
        for value in STRANGE:
            self.refused(BadParameter, {"value": value}, rank_bound, EXAMPLE, 2, value)


if __name__ == "__main__":
    unittest.main()
