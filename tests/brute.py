"""What the document says of rectangles, books and least numbers, gone through word by word."""

import itertools

from tests.helpers import all_signs_of, sign_is_so, subsets, thrown_question


def parts_pair(sign, yes, no):
    """Whether a sign parts two lots."""
    return all(sign_is_so(sign, row) for row in yes) and not any(
        sign_is_so(sign, row) for row in no)


def no_sign_parts(question, yes, no):
    return not any(parts_pair(sign, yes, no) for sign in question[1])


def first_pair_unparted(question):
    for pair in itertools.product(question[2], question[3]):
        if no_sign_parts(question, pair[:1], pair[1:]):
            return pair
    return None


def lots(rows):
    """All lots of at least one of the rows."""
    return [lot for lot in subsets(rows) if lot]


def rectangles(question):
    return list(itertools.product(lots(question[2]), lots(question[3])))


def partings(lot):
    """All partings of a lot into two, neither (), each in both orders."""
    return [(some, tuple(row for row in lot if row not in some))
            for some in subsets(lot) if 0 < len(some) < len(lot)]


def is_within(lesser, greater):
    return set(lesser[0]) <= set(greater[0]) and set(lesser[1]) <= set(greater[1])


def few_questions(dice, count, rows, most_bits=4):
    """Some questions of at most so many rows, of one to four bits, with some signs or all."""
    out = []
    while len(out) < count:
        many = 1 + dice.below(most_bits)
        _, signs, yes, no = thrown_question(dice, many, every_sign=dice.below(2) == 1)
        if dice.below(5) == 0:
            signs = tuple((place, 1) for place in range(many))
        yes = tuple(sorted(yes, key=lambda row: dice.below(1000)))[:1 + dice.below(rows - 1)]
        no = tuple(sorted(no, key=lambda row: dice.below(1000)))[:rows - len(yes)]
        out.append((many, signs, tuple(sorted(yes)), tuple(sorted(no))))
    return out


def can_questions(dice, count, rows, most_bits=4):
    """The same, each pair parted by a sign."""
    out = []
    while len(out) < count:
        for question in few_questions(dice, count, rows, most_bits):
            if first_pair_unparted(question) is None:
                out.append(question)
    return out[:count]


def parity(count, other=None):
    """The question of four bits, all signs, of so many odd and even rows."""
    rows = range(16)
    yes = tuple(row for row in rows if bin(row).count("1") % 2 == 1)[:count]
    no = tuple(row for row in rows if bin(row).count("1") % 2 == 0)[:other or count]
    return (4, all_signs_of(4), yes, no)


# 12 and 13 rows, 10 and 11: some with a pair that no sign parts.
TWELVE = parity(6)
THIRTEEN = parity(6, 7)
TEN = parity(5)
ELEVEN = parity(5, 6)
LONE = (2, ((0, 1), (1, 0)), (1, 2), (0, 3))
LONE_PAIR = (2, 0)

# Kernels of "bit 0 and (bit 1 or (bit 2 and ..))" of five and six bits: in few bits more leaves.
CHAIN_OF_FIVE = (5, tuple((place, 1) for place in range(5)), (3, 13, 21), (5, 25, 30))
CHAIN_OF_SIX = (6, tuple((place, 1) for place in range(6)), (3, 13, 53), (21, 37, 57, 62))


class Formulas:
    """Sets of rows as masks, and what formulas of the signs they take."""

    def __init__(self, question):
        _, signs, yes, no = question
        rows = yes + no
        self.target = (1 << len(yes)) - 1
        self.signs = [sum(1 << at for at, row in enumerate(rows) if sign_is_so(sign, row))
                      for sign in signs]

    def least_depth(self):
        """The least depth of a formula that tells the question, None if there is none."""
        known = set(self.signs)
        for depth in range(20):
            if self.target in known:
                return depth
            known |= {one for a in known for b in known for one in (a | b, a & b)}
        return None

    def leaves_by_depth(self):
        """For each depth the fewest leaves of formulas that tell the question, None if none
        does, up to the depth behind which nothing changes."""
        cost = {mask: 1 for mask in self.signs}
        out = []
        while True:
            out.append(cost.get(self.target))
            following = dict(cost)
            for a, b in itertools.product(cost, repeat=2):
                for one in (a | b, a & b):
                    sum_of_both = cost[a] + cost[b]
                    if sum_of_both < following.get(one, 10 ** 9):
                        following[one] = sum_of_both
            if following == cost:
                return out
            cost = following

    def fewest_by_layers(self, layers, hand):
        """The fewest leaves with the words "or" (for "yes") and "and" in turn, 0 if none."""
        cost = {mask: 1 for mask in self.signs}
        for at in range(layers):
            # The last one, outermost, is that of the hand.
            with_or = (hand == "yes") == ((layers - 1 - at) % 2 == 0)
            cost = self.closed(cost, with_or)
        return cost.get(self.target, 0)

    @staticmethod
    def closed(cost, with_or):
        while True:
            following = dict(cost)
            for a, b in itertools.combinations(cost, 2):
                one = a | b if with_or else a & b
                if cost[a] + cost[b] < following.get(one, 10 ** 9):
                    following[one] = cost[a] + cost[b]
            if following == cost:
                return cost
            cost = following


def bent(dice, book, entry, times):
    """The book with each entry left out, with others put in, changed, in another order, twice."""
    out = [book[:at] + book[at + 1:] for at in range(len(book))]
    for _ in range(times):
        out.append(tuple(sorted(set(book) | {entry()})))
        if book:
            at = dice.below(len(book))
            out.append(tuple(sorted(set(book[:at] + (entry(),) + book[at + 1:]))))
    if len(book) > 1:
        at = dice.below(len(book) - 1)
        out.append(book[:at] + (book[at + 1], book[at]) + book[at + 2:])
    if book:
        at = dice.below(len(book))
        out.append(book[:at + 1] + book[at:])
    return out


def is_ascending(book):
    return list(book) == sorted(set(book))
