"""Terms a second time, for comparison: nested tuples with the words as they were handed in, walked by recursion."""

import re
from functools import lru_cache
from itertools import count, product

from fanweave.terms import fun, name, put

LETTERS = "abcdefghijklmnopqrstuvwxyz"


def built(tree):
    """The Term of a tree."""
    if tree[0] == "name":
        return name(tree[1])
    if tree[0] == "fun":
        return fun(tree[1], built(tree[2]))
    return put(built(tree[1]), built(tree[2]))


def parsed(text):
    """The tree of a text."""
    signs = re.findall(r"\[[a-z]+\] |[a-z]+|[() ]", text)

    def stretch():
        if signs[0][0] == "[":
            return ("fun", signs.pop(0)[1:-2], stretch())
        tree = single()
        while signs and signs[0] == " ":
            signs.pop(0)
            tree = ("put", tree, single())
        return tree

    def single():
        if signs[0] != "(":
            return ("name", signs.pop(0))
        signs.pop(0)
        tree = stretch()
        signs.pop(0)
        return tree

    return stretch()


@lru_cache(None)
def trees(many, words):
    """All trees of just so many parts over these words."""
    if many == 1:
        return tuple(("name", word) for word in words)
    found = [("fun", word, body) for word in words for body in trees(many - 1, words)]
    for ahead in range(1, many - 1):
        found.extend(("put", one, other)
                     for one, other in product(trees(ahead, words), trees(many - 1 - ahead, words)))
    return tuple(found)


def trees_to(most, words):
    """All trees of at most so many parts over these words."""
    return [tree for many in range(1, most + 1) for tree in trees(many, words)]


def free_of(tree):
    """The set of the words of free names."""
    if tree[0] == "name":
        return {tree[1]}
    if tree[0] == "fun":
        return free_of(tree[2]) - {tree[1]}
    return free_of(tree[1]) | free_of(tree[2])


def size_of(tree):
    """How many parts there are."""
    if tree[0] == "name":
        return 1
    if tree[0] == "fun":
        return 1 + size_of(tree[2])
    return 1 + size_of(tree[1]) + size_of(tree[2])


def alike(one, other, around=()):
    """Whether two trees are alike but for the words of bound names."""
    if one[0] != other[0]:
        return False
    if one[0] == "name":
        for mine, its in reversed(around):
            if mine == one[1] or its == other[1]:
                return mine == one[1] and its == other[1]
        return one[1] == other[1]
    if one[0] == "fun":
        return alike(one[2], other[2], around + ((one[1], other[1]),))
    return alike(one[1], other[1], around) and alike(one[2], other[2], around)


def row_of_words():
    """a, b, .., z, aa, ab, .."""
    for many in count(1):
        for letters in product(LETTERS, repeat=many):
            yield "".join(letters)


def renamed(tree, words, depth=0, known=()):
    """The tree with its functions' words by how many functions are around them."""
    if tree[0] == "name":
        for old, new in reversed(known):
            if old == tree[1]:
                return ("name", new)
        return tree
    if tree[0] == "fun":
        new = words[depth]
        return ("fun", new, renamed(tree[2], words, depth + 1, known + ((tree[1], new),)))
    return ("put", renamed(tree[1], words, depth, known), renamed(tree[2], words, depth, known))


def told(tree):
    """The tree with told words."""
    free = free_of(tree)
    words = row_of_words()
    spare = []
    while len(spare) < size_of(tree):
        word = next(words)
        if word not in free:
            spare.append(word)
    return renamed(tree, spare)


def text_of(tree):
    """The text of a tree with the words that it has."""
    if tree[0] == "name":
        return tree[1]
    if tree[0] == "fun":
        return "[" + tree[1] + "] " + text_of(tree[2])
    function = text_of(tree[1])
    if tree[1][0] == "fun":
        function = "(" + function + ")"
    argument = text_of(tree[2])
    if tree[2][0] != "name":
        argument = "(" + argument + ")"
    return function + " " + argument


def parts_of(tree, address=""):
    """The list of tuples (address, part) in the order of addresses."""
    rows = [(address, tree)]
    if tree[0] == "fun":
        rows += parts_of(tree[2], address + "b")
    if tree[0] == "put":
        rows += parts_of(tree[1], address + "f") + parts_of(tree[2], address + "g")
    return rows


def with_put_in(tree, word, other):
    """The tree with the other one put in; functions whose word would catch a free name get another word."""
    if tree[0] == "name":
        return other if tree[1] == word else tree
    if tree[0] == "put":
        return ("put", with_put_in(tree[1], word, other), with_put_in(tree[2], word, other))
    if tree[1] == word:
        return tree
    held = free_of(other) | free_of(tree[2]) | {word}
    fresh = next(each for each in row_of_words() if each not in held)
    body = with_put_in(tree[2], tree[1], ("name", fresh))
    return ("fun", fresh, with_put_in(body, word, other))
