"""The machines by name, by need and by value a second time, for comparison: functions of Python in functions.

A head is ("fun", function of a thing to a head) or ("name", word, things); a thing is a function to its head.
"""

from itertools import count


class Endless(Exception):
    """More turns than let."""


class Heads:
    """One way of taking terms to heads, and how many turns that took."""

    def __init__(self, way, most):
        self.way = way
        self.most = most
        self.turns = 0
        self.fresh = count()

    def head(self, tree, known):
        if tree[0] == "name":
            return known[tree[1]]() if tree[1] in known else ("name", tree[1], ())
        if tree[0] == "fun":
            return ("fun", lambda thing: self.head(tree[2], {**known, tree[1]: thing}))
        function = self.head(tree[1], known)
        thing = self.thing(tree[2], known)
        if function[0] == "name":
            return ("name", function[1], function[2] + (thing,))
        self.turns += 1
        if self.turns > self.most:
            raise Endless
        return function[1](thing)

    def thing(self, tree, known):
        if self.way == "value":
            head = self.head(tree, known)
            return lambda: head
        if self.way == "name":
            return lambda: self.head(tree, known)
        kept = []

        def once():
            if not kept:
                kept.append(self.head(tree, known))
            return kept[0]

        return once

    def read(self, head):
        if head[0] == "fun":
            fresh = f"fresh{next(self.fresh)}"
            return ("fun", fresh, self.read(head[1](lambda: ("name", fresh, ()))))
        tree = ("name", head[1])
        for thing in head[2]:
            tree = ("put", tree, self.read(thing()))
        return tree


def worked_out(tree, way, most):
    """The tuple of the worth and the turns that lead there; None where there are more than most."""
    heads = Heads(way, most)
    try:
        return heads.read(heads.head(tree, {})), heads.turns
    except Endless:
        return None
