"""The fewest bits of a question, and books that fewer will not do."""

from saidbetween.books import counts_of, is_book_for, least_told, need_book_bits, shows_least
from saidbetween.engine import question_field
from saidbetween.kinds import is_tuple
from saidbetween.questions import MOST_ROWS, need_few_rows, need_parted, need_question
from saidbetween.talks import is_talk
from saidbetween.walks import depth


def least_bits(question):
    """The least bits, a talk with so many, and a book that fewer will not do."""
    need_few_rows(need_question(question), MOST_ROWS)
    need_parted(question)
    return least_told(question_field(question))


def is_least_bits(question, value):
    """Whether a value is a triple as `least_bits` tells it."""
    need_few_rows(need_question(question), MOST_ROWS)
    if not is_tuple(value, 3) or not is_talk(question, value[1]):
        return False
    return shows_least(question_field(question), depth(value[1]), value)


def is_book(question, bits, value):
    """Whether a value is a book that shows that no talk of so many bits tells the question."""
    need_few_rows(need_question(question), MOST_ROWS)
    need_book_bits(bits)
    return is_book_for(question_field(question), bits, value)


def talked(question):
    """How many rectangles can be talked in at most 0, 1, .. bits, up to the least bits."""
    need_few_rows(need_question(question), MOST_ROWS)
    need_parted(question)
    return counts_of(question_field(question))
