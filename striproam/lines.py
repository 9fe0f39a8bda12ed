"""The lines that a desk is told: which there are, and their words."""

from striproam.errors import NoLine
from striproam.stopping import WORDS
from striproam.texts import is_number

LETTERS = "abcdefghijklmnopqrstuvwxyz"
MOST_LETTERS = 8
MOST_FIGURES = 3
# What stands behind the first word: new, the name that gets a machine; name,
# one that must be kept; and the document's TEXT, STRIP, NUMBER and WORD.
FORMS = {
    "keep": ("new", "text"),
    "no": ("new", "name"),
    "about": ("new", "name"),
    "stop": ("new", "name"),
    "either": ("new", "name", "name"),
    "both": ("new", "name", "name"),
    "drop": ("name",),
    "undo": (),
    "show": ("name",),
    "names": (),
    "walk": ("name", "strip"),
    "border": ("name", "strip", "number"),
    "rooms": ("name",),
    "tables": ("name",),
    "first": ("name", "word"),
    "compare": ("name", "name"),
    "again": ("name", "strip", "strip", "strip"),
}


def is_name(word):
    return 1 <= len(word) <= MOST_LETTERS and all([letter in LETTERS for letter in word])


def fits(part, word):
    if part == "text":
        return True
    if part == "strip":
        return word != ""
    if part == "number":
        return is_number(word, MOST_FIGURES)
    if part == "word":
        return word in WORDS
    return is_name(word)


def cut(line):
    # TEXT is all behind the second blank, whatever blanks it has itself.
    return line.split(" ", 2) if line.startswith("keep ") else line.split(" ")


def words_of(line):
    words = cut(line)
    form = FORMS.get(words[0])
    if form is None or len(form) != len(words) - 1:
        raise NoLine(line)
    if not all([fits(part, word) for part, word in zip(form, words[1:])]):
        raise NoLine(line)
    return words


def names_asked(words):
    return [word for part, word in zip(FORMS[words[0]], words[1:]) if part == "name"]
