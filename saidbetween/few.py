"""The fewest leaves with few bits, too."""

from saidbetween.engine import NEVER, next_table, question_field, table_of, talk_by, together
from saidbetween.errors import BadParameter
from saidbetween.kinds import is_integer, is_tuple
from saidbetween.questions import MOST_ROWS, need_few_rows, need_parted, need_question
from saidbetween.talks import is_talk
from saidbetween.walks import depth, ends

MOST_FEW_BITS = 20


def need_few_bits(bits):
    """A number of bits that this part looks at."""
    if not is_integer(bits, 0, MOST_FEW_BITS):
        raise BadParameter(bits)
    return bits


def best_of(question, bits):
    """The fewest ends of talks of at most so many bits, and such a talk; None if there is none."""
    need_question(question)
    need_few_bits(bits)
    need_parted(need_few_rows(question, MOST_ROWS))
    field = question_field(question)
    tables = tables_by_bits(field, bits)
    last = tables[-1]
    if last[-1][-1] == NEVER:
        return None
    return (last[-1][-1], talk_by(field, tables, together, len(last) - 1, len(last[0]) - 1))


def tables_by_bits(field, bits):
    """The tables of the fewest ends of talks of at most 0, 1, .. bits, up to so many."""
    tables = [next_table(field, table_of(field, NEVER), 1, together)]
    for number in range(bits):
        # What stays the same with one bit more does so with all further ones.
        if number > 0 and tables[-1] == tables[-2]:
            tables.append(tables[-1])
        else:
            tables.append(next_table(field, tables[-1], 1, together))
    return tables


def leaves_by_bits(question):
    """The pairs (BITS, LEAVES) from the least bits on, up to the first with the fewest leaves."""
    need_few_rows(need_question(question), MOST_ROWS)
    need_parted(question)
    # A lean talk has fewer bits than there are rows: more than so many change nothing.
    tables = tables_by_bits(question_field(question), MOST_ROWS)
    fewest = [table[-1][-1] for table in tables]
    return tuple([
        (bits, fewest[bits])
        for bits in range(fewest.index(fewest[-1]) + 1)
        if fewest[bits] < NEVER
    ])


def is_best_of(question, bits, value):
    """Whether a value is such a pair for so many bits, or None where there is no such talk."""
    need_question(question)
    need_few_bits(bits)
    need_few_rows(question, MOST_ROWS)
    leaves = tables_by_bits(question_field(question), bits)[-1][-1][-1]
    if leaves == NEVER:
        return value is None
    if not is_tuple(value, 2) or not is_integer(value[0], leaves, leaves):
        return False
    talk = value[1]
    return is_talk(question, talk) and ends(talk) == leaves and depth(talk) <= bits
