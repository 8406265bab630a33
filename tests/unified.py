"""Shapes a second time, for comparison: nested tuples, made alike by putting in what letters were found to be.

A shape is a letter, a number or a text, or a tuple (from, to).
"""

from itertools import count


def shapes_of(tree):
    """The dict from all addresses of a tree of trees.py to their widest shapes, None where there are none."""
    known = {}
    fresh = count()
    free = {}

    def within(shape, letter):
        shape = found(shape)
        if isinstance(shape, tuple):
            return within(shape[0], letter) or within(shape[1], letter)
        return shape == letter

    def found(shape):
        while not isinstance(shape, tuple) and shape in known:
            shape = known[shape]
        return shape

    def alike(one, other):
        one, other = found(one), found(other)
        if isinstance(one, tuple) and isinstance(other, tuple):
            return alike(one[0], other[0]) and alike(one[1], other[1])
        if isinstance(one, tuple):
            one, other = other, one
        if one == other:
            return True
        if within(other, one):
            return False
        known[one] = other
        return True

    def shaped(part, address, around):
        """The shape of a part, None where there is none; those of all within it stand in told then."""
        if part[0] == "name":
            shape = around[part[1]] if part[1] in around else free.setdefault(part[1], next(fresh))
        elif part[0] == "fun":
            letter = next(fresh)
            body = shaped(part[2], address + "b", {**around, part[1]: letter})
            shape = None if body is None else (letter, body)
        else:
            function = shaped(part[1], address + "f", around)
            argument = None if function is None else shaped(part[2], address + "g", around)
            shape = next(fresh)
            if argument is None or not alike(function, (argument, shape)):
                return None
        told[address] = shape
        return shape

    def whole(shape):
        shape = found(shape)
        return (whole(shape[0]), whole(shape[1])) if isinstance(shape, tuple) else shape

    told = {}
    if shaped(tree, "", {}) is None:
        return None
    return {address: whole(told[address]) for address in sorted(told)}


def text_of(shape, words):
    """The text of a shape; letters get the next of the words as they first come, by a dict and an iterator."""
    letters, row = words
    if isinstance(shape, tuple):
        return "(" + text_of(shape[0], words) + " > " + text_of(shape[1], words) + ")"
    if shape not in letters:
        letters[shape] = next(row)
    return letters[shape]


def parsed(text):
    """The shape of a text, its letters as texts."""
    def at(place):
        if text[place] != "(":
            end = place
            while end < len(text) and text[end].isalpha():
                end += 1
            return text[place:end], end
        one, place = at(place + 1)
        assert text[place:place + 3] == " > "
        other, place = at(place + 3)
        assert text[place] == ")"
        return (one, other), place + 1

    shape, end = at(0)
    assert end == len(text)
    return shape


def with_put_in(shape, others):
    """The text of a shape with other texts in the place of letters."""
    if isinstance(shape, tuple):
        return "(" + with_put_in(shape[0], others) + " > " + with_put_in(shape[1], others) + ")"
    return others.get(shape, shape)
