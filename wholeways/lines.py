"""The lines of a desk: a word, and behind it what it takes, with one blank between two."""

from wholeways.errors import BadSigns, NoExpression, NoLine
from wholeways.kinds import is_name, is_tie_word, is_within, is_word
from wholeways.reading_paths import read_expression

FIGURES = "0123456789"
LONGEST_FIGURES = 19
GREATEST_NUMBER = 10 ** 18
LONGEST_DEAL = 8
# of the words that lines begin with what comes behind; an expression takes all that is left
FORMS = {
    "begin": ("deal",),
    "abort": ("deal",),
    "commit": ("deal",),
    "soon": ("deal",),
    "snapshot": ("deal",),
    "node": ("deal", "name", "worth"),
    "worth": ("deal", "name", "worth"),
    "unnode": ("deal", "name"),
    "tie": ("deal", "name", "word", "name", "number"),
    "weight": ("deal", "name", "word", "name", "number"),
    "untie": ("deal", "name", "word", "name"),
    "see": ("deal", "name"),
    "from": ("deal", "name"),
    "to": ("deal", "name"),
    "sum": ("deal", "name", "name", "expression"),
    "path": ("deal", "name", "name", "expression"),
    "sums": ("deal", "name", "expression"),
    "plan": ("deal", "name", "name", "expression"),
    "graph": ("deal",),
    "kept": (),
    "forget": (),
    "debt": (),
    "sweep": ("number",),
    "vacuum": (),
    "force": (),
    "check": (),
    "dirty": (),
    "out": ("number",),
    "reach": ("number",),
    "last": (),
    "lasting": (),
    "cut": (),
}


def read_line(line):
    """The pair of the word of a line and the tuple of what stands behind it."""
    if not isinstance(line, str):
        raise NoLine()
    word = line.split(" ")[0]
    if word not in FORMS:
        raise NoLine()
    form = FORMS[word]
    words = line.split(" ", len(form))
    # of a line that takes nothing all would be its word
    if words[0] != word or len(words) != 1 + len(form):
        raise NoLine()
    return (word, tuple([read_thing(kind, text) for kind, text in zip(form, words[1:])]))


def read_thing(kind, text):
    """What a text says that is to be of a kind."""
    if kind == "expression":
        return expression_in(text)
    if kind == "number":
        return number_in(text)
    if kind == "worth":
        return worth_in(text)
    if kind == "name":
        goes = is_name(text)
    elif kind == "word":
        goes = is_tie_word(text)
    else:
        goes = is_word(text) and 1 <= len(text) <= LONGEST_DEAL
    if not goes:
        raise NoLine()
    return text


def expression_in(text):
    try:
        return read_expression(text)
    except (BadSigns, NoExpression):
        raise NoLine()


def number_in(text):
    """The number whose figures these are, without needless zeros."""
    if not 1 <= len(text) <= LONGEST_FIGURES or not all([sign in FIGURES for sign in text]):
        raise NoLine()
    if (text[0] == "0" and text != "0") or not is_within(int(text), 0, GREATEST_NUMBER):
        raise NoLine()
    return int(text)


def worth_in(text):
    """The worth that a text says; there is no zero below zero."""
    if not text.startswith("-"):
        return number_in(text)
    worth = -number_in(text[1:])
    if worth == 0:
        raise NoLine()
    return worth
