"""Values that several tests hand in."""

import random
from functools import lru_cache

from fanweave.terms import fun, name, put, put_in
from fanweave.texts import read_term
from tests import labelled, trees

NO_TEXTS = [None, True, False, 0, 1, 7, -1, 1.5, b"", b"a", [], ["a"], (), ("a",), {}, {"a": "a"}, set(), {"a"},
            frozenset(), object(), str, len, name("a"), fun("a", name("a"))]

NO_WHOLE_NUMBERS = [None, True, False, -1, -7, 0.0, 1.0, 1.5, float("nan"), "", "0", "1", b"1", [], [1], (1,), {},
                    {1: 1}, set(), {1}, frozenset(), object(), int, len, 1j, name("a")]

# No turns lead these to a worth.
ENDLESS = ["([x] x x) ([x] x x)", "y (([x] x x) ([x] x x))", "[z] ([x] f (x x)) ([x] f (x x))",
           "([x] x x x) ([x] x x x)", "y z (([x] [y] x x) ([x] [y] x x))", "([x] x x) ([x] [y] x x)"]

# Terms that turns put together: they double, drop, swap and hand on what they are put to.
PIECES = ["[a] a a", "[a] [b] a (a b)", "[a] y a a", "[a] [b] b a a", "[a] a", "[a] [b] a", "[a] [b] [c] a c (b c)",
          "[a] x a", "[a] ([b] b) a", "x", "y", "[a] [b] ([c] c c) (a b)", "[a] a (a x)", "[a] ([b] b a) ([c] a c)",
          "[a] a ([b] b) ([b] a)", "x (([w] w) z)", "[a] [b] [c] a (b c)", "[f] f x (f y)", "[a] z"]


class Agreeing:
    """Says of everything that it is equal."""

    def __eq__(self, other):
        return True


def deep_left(many):
    """x put to y, so many times."""
    term = name("x")
    for _ in range(many):
        term = put(term, name("y"))
    return term


def deep_right(many):
    """x put so many times to y."""
    term = name("y")
    for _ in range(many):
        term = put(name("x"), term)
    return term


def deep_functions(many):
    """So many functions of x within one another."""
    term = name("x")
    for _ in range(many):
        term = fun("x", term)
    return term


def deep_brackets(many):
    """Functions put to y, so many within the functions of one another."""
    term = name("x")
    for _ in range(many):
        term = put(fun("x", term), name("y"))
    return term


def large():
    """A term of 131071 parts."""
    term = put(name("x"), name("x"))
    for _ in range(15):
        term = put_in(put(name("z"), name("z")), "z", term)
    return term


def numeral(many):
    """[a] [b] a (a (.. b)), with a put so many times."""
    body = name("b")
    for _ in range(many):
        body = put(name("a"), body)
    return fun("a", fun("b", body))


def put_to(function, *arguments):
    """A term put to arguments, one behind the other; each a term or a text."""
    told = [read_term(each) if isinstance(each, str) else each for each in (function, *arguments)]
    term = told[0]
    for argument in told[1:]:
        term = put(term, argument)
    return term


def combined(chance, many):
    """A tree put together of so many pieces."""
    if many == 1:
        return trees.parsed(chance.choice(PIECES))
    kind = chance.random()
    word = chance.choice("ab")
    if kind < 0.1:
        return ("fun", word, combined(chance, many - 1))
    if kind < 0.25:
        doubled = ("put", ("put", ("name", word), combined(chance, 1)), ("name", word))
        return ("put", ("fun", word, doubled), combined(chance, many - 1))
    ahead = chance.randint(1, many - 1)
    return ("put", combined(chance, ahead), combined(chance, many - ahead))


@lru_cache(None)
def ending():
    """Small trees and combined ones, with short leftmost runs."""
    chance = random.Random(5)
    told = trees.trees_to(5, ("a", "b")) + trees.trees_to(8, ("a",))
    told += [combined(chance, chance.randint(2, 6)) for _ in range(400)]
    return tuple(tree for tree in told if is_short(tree))


def is_short(tree):
    """Whether the leftmost run of a tree has at most 40 turns, and at most 200 parts on the way."""
    tree = labelled.labelled(tree)
    for _ in range(41):
        found = labelled.redexes_of(tree)
        if not found:
            return True
        tree = labelled.turned_at(tree, found[0][0])
        if trees.size_of(tree) > 200:
            return False
    return False


def term_of(tree):
    """The Term of a tree with whatever words and labels."""
    return trees.built(trees.told(labelled.plain(tree)))
