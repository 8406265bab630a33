"""Values that several tests hand in."""

from fanweave.terms import fun, name, put, put_in

NO_TEXTS = [None, True, False, 0, 1, 7, -1, 1.5, b"", b"a", [], ["a"], (), ("a",), {}, {"a": "a"}, set(), {"a"},
            frozenset(), object(), str, len, name("a"), fun("a", name("a"))]


class Agreeing:
    """Says of everything that it is equal."""

    def __eq__(self, other):
        return True


def deep_left(many):
    """x put to y, so many times."""
    term = name("x")
    for _ in range(many):
        term = put(term, name("y"))
    return term


def deep_right(many):
    """x put so many times to y."""
    term = name("y")
    for _ in range(many):
        term = put(name("x"), term)
    return term


def deep_functions(many):
    """So many functions of x within one another."""
    term = name("x")
    for _ in range(many):
        term = fun("x", term)
    return term


def deep_brackets(many):
    """Functions put to y, so many within the functions of one another."""
    term = name("x")
    for _ in range(many):
        term = put(fun("x", term), name("y"))
    return term


def large():
    """A term of 131071 parts."""
    term = put(name("x"), name("x"))
    for _ in range(15):
        term = put_in(put(name("z"), name("z")), "z", term)
    return term
