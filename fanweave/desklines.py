"""Lines of a desk: their forms, and what is read of them."""

from fanweave.errors import NoLine
from fanweave.wholes import written_number
from fanweave.words import is_word

WORD = "WORD"
KIND = "KIND"
NUMBER = "N"
TERM = "TERM"

# What follows the first word of a line; a TERM is the last of it, with the blanks that it has.
FORMS = {
    "let": ("WORD", "TERM"),
    "show": ("WORD",),
    "drop": ("WORD",),
    "make": ("WORD", "KIND", "TERM"),
    "go": ("WORD", "N"),
    "end": ("WORD",),
    "worth": ("WORD",),
    "turns": ("WORD",),
    "back": ("WORD", "N"),
    "twin": ("WORD", "WORD"),
    "read": ("WORD",),
    "shape": ("TERM",),
    "net": ("WORD",),
    "race": ("TERM",),
    "undo": (),
}
KINDS = ("placer", "namer", "needer", "valuer", "sharer")
MOST_STEPS = 2000


def read_line(line):
    """Tell the list of a line's first word and of what follows it, numbers as numbers."""
    if not isinstance(line, str):
        raise NoLine("a line is a text")
    first = line.split(" ", 1)[0]
    if first not in FORMS:
        raise NoLine("no line begins so")
    form = FORMS[first]
    words = line.split(" ", len(form)) if TERM in form else line.split(" ")
    if len(words) != len(form) + 1:
        raise NoLine("a line of this kind has more words, or fewer")
    things = [read_thing(kind, text) for kind, text in zip(form, words[1:])]
    return [first, *things]


def read_thing(kind, text):
    """Tell what such a thing of a line is."""
    if kind == NUMBER:
        number = written_number(text)
        if number is None or number > MOST_STEPS:
            raise NoLine("a number of steps is written by figures, and not above 2000")
        return number
    if kind == WORD and not is_word(text):
        raise NoLine("a word is a text of one to eight small letters")
    if kind == KIND and text not in KINDS:
        raise NoLine("there are no machines of this kind")
    if kind == TERM and text == "":
        raise NoLine("a term has one sign at least")
    return text
