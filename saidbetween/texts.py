"""Texts of questions, formulas, talks and trees: written and read."""

from saidbetween.asks import need_tree
from saidbetween.errors import BadText
from saidbetween.formulas import need_formula
from saidbetween.kinds import need_many
from saidbetween.questions import need_question
from saidbetween.talks import need_talk
from saidbetween.walks import is_branch
from saidbetween.wording import end_of, is_number, words_of

# For what is wanted and the word that stands there: with what a new tuple begins (None if none
# is begun), and what is wanted next, in this order. What is not listed: "number" and "numbers",
# those up to the end of a lot, and "close", no word at all: the tuple begun last is done.
WAYS = {
    ("a question", "question"): ((), ("number", "all signs", "lot", "lot", "close")),
    ("all signs", "("): ((), ("signs", "close")),
    ("signs", "sign"): ((), ("number", "number", "close", "signs")),
    ("signs", ")"): (None, ()),
    ("lot", "{"): ((), ("numbers", "close")),
    ("numbers", "}"): (None, ()),
    ("a formula", "formula"): (None, ("formula",)),
    ("formula", "sign"): ((), ("number", "number", "close")),
    ("formula", "or"): (("or",), ("formula", "formula", "close")),
    ("formula", "and"): (("and",), ("formula", "formula", "close")),
    ("a talk", "talk"): (None, ("talk",)),
    ("talk", "sign"): ((), ("number", "number", "close")),
    ("talk", "yes"): (("yes",), ("lot", "talk", "talk", "close")),
    ("talk", "no"): (("no",), ("lot", "talk", "talk", "close")),
    ("a tree", "tree"): (None, ("tree",)),
    ("tree", "ask"): (("ask",), ("number", "tree", "tree", "close")),
}


def question_text(question):
    """The text of a question."""
    many, signs, yes, no = need_question(question)
    rows = ["question " + str(many) + " ("]
    rows.extend([own_words(sign) for sign in signs])
    rows.append(") " + lot_words(yes) + " " + lot_words(no))
    return "\n".join(rows)


def formula_text(question, formula):
    """The text of a formula."""
    return "\n".join(["formula"] + rows_of(need_formula(question, formula), "  "))


def talk_text(question, talk):
    """The text of a talk."""
    return "\n".join(["talk"] + rows_of(need_talk(question, talk), "  "))


def tree_text(many, tree):
    """The text of a tree of asks."""
    return "\n".join(["tree"] + rows_of(need_tree(many, tree), "  "))


def rows_of(thing, blanks):
    """The rows of a checked formula, talk or tree behind so many blanks."""
    rows = [blanks + own_words(thing)]
    if is_branch(thing):
        rows.extend(rows_of(thing[-2], blanks + "  "))
        rows.extend(rows_of(thing[-1], blanks + "  "))
    return rows


def own_words(thing):
    """The words of a checked thing, without those of its parts."""
    if type(thing) is int:
        return str(thing)
    if not is_branch(thing):
        return "sign " + str(thing[0]) + " " + str(thing[1])
    if thing[0] == "ask":
        return "ask " + str(thing[1])
    if len(thing) == 4:
        return thing[0] + " " + lot_words(thing[1])
    return thing[0]


def lot_words(lot):
    """The words of a lot."""
    return " ".join(["{"] + [str(row) for row in lot] + ["}"])


def read_question(text):
    """The question that a text tells."""
    return need_question(what_is_told(text, "a question"))


def read_formula(question, text):
    """The formula that a text tells."""
    need_question(question)
    return need_formula(question, what_is_told(text, "a formula"))


def read_talk(question, text):
    """The talk that a text tells."""
    need_question(question)
    return need_talk(question, what_is_told(text, "a talk"))


def read_tree(many, text):
    """The tree of asks that a text tells."""
    need_many(many)
    return need_tree(many, what_is_told(text, "a tree"))


def what_is_told(text, form):
    """What a text of this form tells, not checked any further."""
    if type(text) is not str:
        raise BadText(0, 0)
    # What is wanted next stands last. No calls within calls: a text may be of any depth.
    wanted = [form]
    begun = [[]]
    for line, number, word in words_of(text):
        if not wanted or not is_taken(wanted, begun, word):
            raise BadText(line, number)
        close_all(wanted, begun)
    if wanted:
        line, number = end_of(text)
        raise BadText(line, number)
    return begun[0][0]


def is_taken(wanted, begun, word):
    """Takes the next word, if it is one that can stand here."""
    want = wanted.pop()
    if is_integer_here(want, word):
        begun[-1].append(int(word))
        if want == "numbers":
            wanted.append(want)
        return True
    if (want, word) not in WAYS:
        return False
    head, following = WAYS[(want, word)]
    if head is not None:
        begun.append(list(head))
    wanted.extend(following[::-1])
    return True


def is_integer_here(want, word):
    """Whether a word is an integer that can stand where this is wanted."""
    if want == "tree":
        return word in ("0", "1")
    return want in ("number", "numbers") and is_number(word)


def close_all(wanted, begun):
    """Makes tuples of what has come to its end."""
    while wanted and wanted[-1] == "close":
        wanted.pop()
        done = begun.pop()
        begun[-1].append(tuple(done))
