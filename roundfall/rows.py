"""Rows as a desk is told them: a first word, and behind it things of kinds that hang on that word."""

from roundfall.errors import NoRow, NoText
from roundfall.texts import read_number

LETTERS = "abcdefghijklmnopqrstuvwxyz"
MOST_LETTERS = 8
RULES = ("plain", "soon", "sure", "together")
MOST = {"hand": 4, "bound": 3, "rounds": 4}
FORMS = {
    "run": ("name", "text"),
    "show": ("name",),
    "waste": ("name",),
    "close": ("name", "bound"),
    "know": ("name", "hand", "rounds"),
    "choose": ("name", "rule", "bound", "rounds"),
    "alike": ("name", "other", "rounds"),
    "chain": ("name", "bound", "rounds", "number"),
    "break": ("name", "rule", "bound", "rounds"),
}


def is_name(word):
    return 1 <= len(word) <= MOST_LETTERS and all([sign in LETTERS for sign in word])


def read_name(word):
    if not is_name(word):
        raise NoRow("this is no name")
    return word


def read_rule(word):
    if word not in RULES:
        raise NoRow("this is no rule")
    return word


def read_figure(word, most):
    if word not in [str(figure) for figure in range(most + 1)]:
        raise NoRow("this is no figure that may stand here")
    return int(word)


def read_whole(word):
    try:
        return read_number(word)
    except NoText:
        raise NoRow("this is no number") from None


def read_word(kind, word):
    if kind == "name" or kind == "other":
        return read_name(word)
    if kind == "rule":
        return read_rule(word)
    if kind == "number":
        return read_whole(word)
    # What the text writes is asked when the whole row is known to be one.
    if kind == "text":
        return word
    return read_figure(word, MOST[kind])


def words_of(row):
    # The text of a run has blanks of its own.
    words = row.split(" ", 2) if row.startswith("run ") else row.split(" ")
    if words[0] not in FORMS or len(words) != len(FORMS[words[0]]) + 1:
        raise NoRow("this is no row")
    return words


def read_row(row):
    words = words_of(row)
    kinds = FORMS[words[0]]
    asked = {}
    for place in range(len(kinds)):
        asked[kinds[place]] = read_word(kinds[place], words[place + 1])
    return (words[0], asked)
