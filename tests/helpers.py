"""What the tests share: things of any kind, samples, and checks of refusals."""

import itertools
import unittest

from saidbetween.errors import BadQuestion


class Touchy:
    """Whatever is done with it, compared or asked, it raises."""

    def _refuse(self, *_):
        raise AssertionError("a thing of unknown kind was touched")

    __eq__ = __ne__ = __lt__ = __le__ = __gt__ = __ge__ = _refuse
    __len__ = __iter__ = __getitem__ = __contains__ = __bool__ = _refuse
    __add__ = __and__ = __rshift__ = __index__ = __int__ = _refuse
    __hash__ = None


class Equal:
    """It says that it is equal to everything."""

    def __eq__(self, other):
        return True

    def __ne__(self, other):
        return False

    def __hash__(self):
        return 1


class Liar:
    """It says that it is an integer."""

    @property
    def __class__(self):
        return int

    def __lt__(self, other):
        raise AssertionError("touched")

    __le__ = __gt__ = __ge__ = __eq__ = __lt__
    __hash__ = None


class TouchyNumber(int):
    """An integer that raises when it is compared."""

    def __lt__(self, other):
        raise AssertionError("touched")

    __le__ = __gt__ = __ge__ = __eq__ = __lt__
    __hash__ = None


class TouchyText(str):
    """A string that raises when it is compared."""

    def __eq__(self, other):
        raise AssertionError("touched")

    __ne__ = __eq__
    __hash__ = None


def nested(depth):
    """A tuple in a tuple in a tuple, so deep."""
    thing = ()
    for _ in range(depth):
        thing = (thing,)
    return thing


def ring():
    """A list that contains itself."""
    thing = []
    thing.append(thing)
    return thing


# Things that are no rows, no signs, no lots, no questions, no formulas, no talks, no trees.
STRANGE = [
    None, True, False, -1, 10 ** 30, 0.0, 1.0, float("nan"), 1j, "", "or", "yes", "0", b"", b"or",
    [], [0, 1], [1], ["or", (0, 1), (0, 1)], {}, {0: 1}, set(), {1}, frozenset(), range(2),
    bytearray(b"x"), object(), int, len, lambda: 0, ring(), Touchy(), Equal(), Liar(),
    TouchyNumber(0), TouchyText("or"), (Touchy(),), (Touchy(), Touchy()), (Equal(), Equal()),
    (Touchy(),) * 3, (Touchy(),) * 4, (Equal(),) * 3, (Equal(),) * 4, (ring(), ring()),
    (TouchyNumber(0), 1), (0, TouchyNumber(1)), (0, Liar()), (TouchyText("or"), (0, 1), (0, 1)),
    (True, 1), (0, True), (False, False), (0, 1.0), (0.0, 1), (None, None), ((0, 1),), (0, 1, 0),
    ("or",), ("or", (0, 1)), ("or", (0, 1), (0, 1), (0, 1)), ("xor", (0, 1), (0, 1)),
    ("OR", (0, 1), (0, 1)), (b"or", (0, 1), (0, 1)), ("sign", 0, 1), nested(3), nested(5000),
    ("yes",), ("yes", ()), ("yes", (), (0, 1)), ("yes", (), (0, 1), (0, 1), (0, 1)),
    ("maybe", (), (0, 1), (0, 1)), (b"yes", (), (0, 1), (0, 1)), (1, (), (0, 1), (0, 1)),
    ("ask",), ("ask", 0), ("ask", 0, 1), ("ask", 0, 1, 0, 1), ("asked", 0, 1, 0), (b"ask", 0, 1, 0),
]


def is_plain(thing):
    """Whether a result is made of tuples, integers, texts, True, False and None alone."""
    left = [thing]
    while left:
        one = left.pop()
        if type(one) is tuple:
            left.extend(one)
        elif one is not None and type(one) not in (int, str, bool):
            return False
    return True


class Case(unittest.TestCase):
    """A test case that can check refusals and calls."""

    def refused(self, error, told, function, *arguments, **named):
        """The call raises just this error, with these things in its attributes."""
        with self.assertRaises(error) as caught:
            function(*arguments, **named)
        self.assertIs(type(caught.exception), error)
        for name, value in told.items():
            held = getattr(caught.exception, name)
            if held is not value:
                self.assertIs(type(held), type(value))
                self.assertEqual(held, value)

    def check_calls(self, function, names, good, wrong):
        """By position and by name alike; equal calls alike; parameters refused in their order.

        `wrong` has for each parameter a list of (value, error, attributes).
        """
        answer = function(*good)
        self.assertTrue(is_plain(answer), answer)
        self.assertEqual(function(*good), answer)
        self.assertEqual(function(**dict(zip(names, good))), answer)
        self.assertIs(type(function(*good)), type(answer))
        for at, choices in enumerate(wrong):
            for value, error, told in choices:
                one = list(good)
                one[at] = value
                self.refused(error, told, function, *one)
                self.refused(error, told, function, **dict(zip(names, one)))
                for later in range(at + 1, len(wrong)):
                    for other, _, _ in wrong[later]:
                        two = list(one)
                        two[later] = other
                        self.refused(error, told, function, *two)


class Dice:
    """Numbers that look thrown and are the same each time."""

    def __init__(self, seed):
        self.state = seed * 2 + 1

    def below(self, limit):
        self.state = (self.state * 6364136223846793005 + 1442695040888963407) % 2 ** 64
        return (self.state >> 33) % limit

    def some(self, things, least=0):
        """Some of the things, in their order, at least so many."""
        while True:
            out = tuple(thing for thing in things if self.below(2))
            if len(out) >= least:
                return out


def all_signs_of(many):
    return tuple((place, bit) for place in range(many) for bit in (0, 1))


def subsets(things):
    """All tuples of some of the things, in their order."""
    return [
        tuple(thing for thing, chosen in zip(things, picks) if chosen)
        for picks in itertools.product((0, 1), repeat=len(things))
    ]


def small_questions(many):
    """All questions of one or two bits."""
    out = []
    for signs in subsets(all_signs_of(many)):
        for sides in itertools.product((0, 1, 2), repeat=2 ** many):
            yes = tuple(row for row, side in enumerate(sides) if side == 1)
            no = tuple(row for row, side in enumerate(sides) if side == 2)
            if yes and no:
                out.append((many, signs, yes, no))
    return out


def thrown_question(dice, many, every_sign=False):
    """Some question of so many bits."""
    signs = all_signs_of(many) if every_sign else dice.some(all_signs_of(many))
    while True:
        sides = [dice.below(3) for _ in range(2 ** many)]
        yes = tuple(row for row, side in enumerate(sides) if side == 1)
        no = tuple(row for row, side in enumerate(sides) if side == 2)
        if yes and no:
            return (many, signs, yes, no)


def thrown_formula(dice, signs, leaves):
    """Some formula with so many leaves."""
    if leaves == 1:
        return signs[dice.below(len(signs))]
    first = 1 + dice.below(leaves - 1)
    word = ("or", "and")[dice.below(2)]
    return (word, thrown_formula(dice, signs, first), thrown_formula(dice, signs, leaves - first))


def thrown_talk(dice, question, ends):
    """Some talk with so many ends; it may tell anything."""
    many, signs, _, _ = question
    if ends == 1:
        return signs[dice.below(len(signs))]
    first = 1 + dice.below(ends - 1)
    hand = ("yes", "no")[dice.below(2)]
    lot = dice.some(range(2 ** many))
    return (hand, lot, thrown_talk(dice, question, first), thrown_talk(dice, question, ends - first))


def sign_is_so(sign, row):
    """By the words of the document."""
    return row // 2 ** sign[0] % 2 == sign[1]


def formula_is_so(formula, row):
    """By the words of the document."""
    if formula[0] == "or":
        return formula_is_so(formula[1], row) or formula_is_so(formula[2], row)
    if formula[0] == "and":
        return formula_is_so(formula[1], row) and formula_is_so(formula[2], row)
    return sign_is_so(formula, row)


# The question of the document's example, and what is told of it there.
EXAMPLE = (2, ((0, 0), (0, 1), (1, 0), (1, 1)), (1, 2), (0, 3))
EXAMPLE_FORMULA = ("or", ("and", (0, 1), (1, 0)), ("and", (0, 0), (1, 1)))
EXAMPLE_TALK = ("yes", (1,), ("no", (0,), (0, 1), (1, 0)), ("no", (0,), (1, 1), (0, 0)))

# One of each kind of what can be wrong with a question.
WRONG_QUESTIONS = [
    ([2, EXAMPLE[1], (1, 2), (0, 3)], ()),
    (EXAMPLE[:3], ()),
    (EXAMPLE + (0,), ()),
    (None, ()),
    ((True,) + EXAMPLE[1:], (0,)),
    ((9,) + EXAMPLE[1:], (0,)),
    ((2, list(EXAMPLE[1]), (1, 2), (0, 3)), (1,)),
    ((2, ((0, 1), (0, 0)), (1, 2), (0, 3)), (1, 1)),
    ((2, EXAMPLE[1], (), (0, 3)), (2,)),
    ((2, EXAMPLE[1], (1, 2), (0, 1)), (3,)),
]

QUESTION_REFUSALS = [(value, BadQuestion, {"place": place}) for value, place in WRONG_QUESTIONS]

# What is no lot of rows of two bits.
WRONG_LOTS = [
    None, [], [1, 2], {1}, 1, "", "12", (True,), (0, True), (1.0,), (4,), (-1,), (1, 1), (2, 1),
    (0, 2, 1), ((1,),), ("1",), (None,), (1, Touchy()), (Touchy(), 1), (0, 1, 2, 3, 4), range(1, 3),
]


def is_branch(thing):
    """Whether a formula, talk or tree has parts."""
    return type(thing) is tuple and type(thing[0]) is str


def things(whole):
    """The paths to all things of a formula, talk or tree, in the order of the walk."""
    out = [()]
    if is_branch(whole):
        for part in (len(whole) - 2, len(whole) - 1):
            out += [(part,) + path for path in things(whole[part])]
    return out


def thing_at(whole, path):
    for part in path:
        whole = whole[part]
    return whole


def put(whole, path, thing):
    """The whole with another thing at a path."""
    if not path:
        return thing
    parts = list(whole)
    parts[path[0]] = put(whole[path[0]], path[1:], thing)
    return tuple(parts)


def chain(depth, heads, side, inmost, other):
    """What has this depth, all of whose branches lie in the first, or second, part of each.

    `heads` has what stands ahead of the parts, from the inmost branch on, again and again.
    """
    for at in range(depth):
        head = heads[at % len(heads)]
        inmost = head + ((inmost, other) if side == 1 else (other, inmost))
    return inmost


def full(ends, head, end):
    """What has so many ends, as shallow as can be."""
    if ends == 1:
        return end
    return head + (full((ends + 1) // 2, head, end), full(ends // 2, head, end))
