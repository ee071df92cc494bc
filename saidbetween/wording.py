"""Words of texts: what parts them, where they stand, which of them are numbers."""

MOST_FIGURES = 9


def lines_of(text):
    """The words of each line; only blanks and line feeds part words."""
    return [[word for word in line.split(" ") if word] for line in text.split("\n")]


def words_of(text):
    """All words, each with its line and its number there: triples (LINE, NUMBER, WORD)."""
    return [
        (at, number, word)
        for at, line in enumerate(lines_of(text))
        for number, word in enumerate(line)
    ]


def end_of(text):
    """Where a text ends: the number of the last line, and how many words this has."""
    lines = lines_of(text)
    return (len(lines) - 1, len(lines[-1]))


def is_number(word):
    """Whether a word is an integer from 0 on without needless zeros, of at most 9 figures."""
    if len(word) > MOST_FIGURES or not word.isascii() or not word.isdigit():
        return False
    return word == "0" or word[0] != "0"
