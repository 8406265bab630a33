"""Terms: names, functions of a word and a body, and puts of a function and an argument."""

from fanweave.errors import NoAddress, NoWord
from fanweave.parts import FUN, PUT, depths, end_of, free_words, is_level, raised, text_pieces, told_words
from fanweave.words import is_word

LIMIT = 400


class Term:
    """A term; it is never changed. Made by name, fun, put and what is built on them, of a row of parts."""

    def __init__(self, parts):
        self.parts = tuple(parts)

    def __eq__(self, other):
        return isinstance(other, Term) and self.parts == other.parts

    def __len__(self):
        return len(self.parts)

    def __str__(self):
        return "".join(text_pieces(self.parts))

    def free(self):
        """Tell the sorted list of the words of free names, each once."""
        return free_words(self.parts)

    def is_closed(self):
        """Tell whether no name is free."""
        return len(free_words(self.parts)) == 0


def name(word):
    """Make the term that is a name."""
    check_word(word)
    return Term([word])


def fun(word, body):
    """Make the function that binds the word in the body."""
    check_word(word)
    bound = [0 if part == word else part for part in raised(body.parts, 1)]
    return Term([FUN, *bound])


def put(function, argument):
    """Make the put of a function to an argument."""
    return Term([PUT, *function.parts, *argument.parts])


def put_in(term, word, other):
    """Tell the term with the other one in the place of each free name that is the word."""
    check_word(word)
    return all_put_in(term, {word: other})


def all_put_in(term, others):
    """Tell the term with others in the place of free names, all at once, by a dict from their words."""
    parts = []
    for part, depth in zip(term.parts, depths(term.parts)):
        if part in others:
            parts.extend(raised(others[part].parts, depth))
        else:
            parts.append(part)
    return Term(parts)


def kind_at(term, address):
    """Tell what stands at an address: name, fun or put."""
    part = term.parts[place_of(term, address)]
    if part == FUN:
        return "fun"
    if part == PUT:
        return "put"
    return "name"


def part_at(term, address):
    """Tell the part at an address as a term; names that are bound ahead of it are free in it."""
    start = place_of(term, address)
    depth = address.count("b")
    words = told_words(term.parts)
    parts = term.parts[start:end_of(term.parts, start)]
    return Term([lowered(part, depth, words) for part in parts])


def lowered(part, depth, words):
    """Tell a part as it stands without the outermost functions, depth of them, which are written by words."""
    if not is_level(part):
        return part
    if part < depth:
        return words[part]
    return part - depth


def check_word(word):
    """Refuse what is no word."""
    if not is_word(word):
        raise NoWord("a word is a text of one to eight small letters")


def place_of(term, address):
    """Tell the place in the term's row at which the part at an address begins."""
    if not isinstance(address, str):
        raise NoAddress("an address is a text")
    parts = term.parts
    place = 0
    for letter in address:
        if parts[place] == FUN and letter == "b":
            place += 1
        elif parts[place] == PUT and letter == "f":
            place += 1
        elif parts[place] == PUT and letter == "g":
            place = end_of(parts, place + 1)
        else:
            raise NoAddress("no part stands there")
    return place
