"""What is an integer, a row, a sign, a lot, a table: asked of things of any kind.

A thing is compared only once it is known to be a plain integer, string or tuple of these:
whatever else was handed in might do anything when it is compared.
"""

from saidbetween.errors import BadParameter, BadTable

MOST_BITS = 8
MOST_ENTRIES = 20000


def is_integer(thing, low, high):
    """Whether a thing is an integer from low to high; True and False are none."""
    return type(thing) is int and low <= thing <= high


def is_tuple(thing, count):
    """Whether a thing is a tuple of so many things."""
    return type(thing) is tuple and len(thing) == count


def is_word(thing, words):
    """Whether a thing is one of these words."""
    return type(thing) is str and thing in words


def is_many(thing):
    """Whether a thing can be a number of bits."""
    return is_integer(thing, 1, MOST_BITS)


def is_row(many, thing):
    """Whether a thing is a row of so many bits."""
    return is_integer(thing, 0, (1 << many) - 1)


def is_sign(many, thing):
    """Whether a thing is a sign of so many bits."""
    return is_tuple(thing, 2) and is_integer(thing[0], 0, many - 1) and is_integer(thing[1], 0, 1)


def is_sign_in(signs, thing):
    """Whether a thing is one of these signs."""
    return is_sign(MOST_BITS, thing) and thing in signs


def is_row_in(rows, thing):
    """Whether a thing is one of these rows."""
    return type(thing) is int and thing in rows


def is_lot(many, thing):
    """Whether a thing is a lot of rows of so many bits."""
    return is_set_of_numbers(1 << many, thing)


def is_set_of_numbers(limit, thing):
    """Whether a thing is a SET of integers from 0 to below the limit."""
    if type(thing) is not tuple:
        return False
    last = -1
    for number in thing:
        if not is_integer(number, last + 1, limit - 1):
            return False
        last = number
    return True


def is_set_of_entries(about, thing, is_entry):
    """Whether a thing is a SET of at most 20,000 entries, each told by is_entry(about, entry)."""
    if type(thing) is not tuple or len(thing) > MOST_ENTRIES:
        return False
    last = ()
    for entry in thing:
        if not is_entry(about, entry) or entry <= last:
            return False
        last = entry
    return True


def first_wrong_sign(many, signs):
    """The place of the first thing by which a tuple is no SET of signs, None if it is one."""
    last = ()
    for place, sign in enumerate(signs):
        if not is_sign(many, sign) or sign <= last:
            return place
        last = sign
    return None


def need_many(many):
    """A number of bits."""
    if not is_many(many):
        raise BadParameter(many)
    return many


def need_signs(many, signs):
    """A SET of signs of so many bits."""
    if type(signs) is not tuple or first_wrong_sign(many, signs) is not None:
        raise BadParameter(signs)
    return signs


def need_row(many, row):
    """A row of so many bits."""
    if not is_row(many, row):
        raise BadParameter(row)
    return row


def need_values(many, values):
    """The values of a table of so many bits."""
    if not is_tuple(values, 1 << many):
        raise BadTable(())
    wrong = first_wrong_value(values)
    if wrong is not None:
        raise BadTable((wrong,))
    return values


def first_wrong_value(values):
    """The place of the first thing of a tuple that is not 0 or 1, None if there is none."""
    for place, value in enumerate(values):
        if not is_integer(value, 0, 1):
            return place
    return None
