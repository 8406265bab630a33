"""Rows of parts: how terms are kept.

A row has one item for each part of a term, in the order of their addresses: FUN for a function, ahead of its
body; PUT for a put, ahead of its function and then its argument; for a free name its word; for a bound name its
level: how many functions stand around the one that binds it.

So two terms that are alike but for the words of bound names have the same row, a term that is put in keeps its
free names whatever functions are around, and all is walked by loops, however deep it is.
"""

from fanweave.words import spare_words

FUN = -1
PUT = -2

# Where a part stands for its text: this tells whether it needs brackets.
WHOLE = "whole"
FUNCTION = "function"
ARGUMENT = "argument"


def is_level(part):
    """Tell whether a part is a bound name."""
    return isinstance(part, int) and part >= 0


def depths(parts):
    """Tell the list, for each part, of how many functions stand around it."""
    waiting = [0]
    told = []
    for part in parts:
        depth = waiting.pop()
        told.append(depth)
        if part == FUN:
            waiting.append(depth + 1)
        elif part == PUT:
            waiting.extend([depth, depth])
    return told


def end_of(parts, start):
    """Tell the place behind the part that begins at start and all that is within it."""
    place = start
    waiting = 1
    while waiting > 0:
        if parts[place] == PUT:
            waiting += 1
        elif parts[place] != FUN:
            waiting -= 1
        place += 1
    return place


def ends(parts):
    """Tell the list, for each part, of the place behind it and all that is within it."""
    told = [0] * len(parts)
    for place in reversed(range(len(parts))):
        behind = place + 1
        if parts[place] == FUN:
            behind = told[behind]
        elif parts[place] == PUT:
            behind = told[told[behind]]
        told[place] = behind
    return told


def addresses_at(parts, places):
    """Tell the list of the addresses of the parts at these places, in their order."""
    waiting = [""]
    told = []
    # The parts behind the last place have no say in the addresses ahead of them.
    for part in parts[:max(places, default=-1) + 1]:
        address = waiting.pop()
        told.append(address)
        if part == FUN:
            waiting.append(address + "b")
        elif part == PUT:
            waiting.append(address + "g")
            waiting.append(address + "f")
    return [told[place] for place in places]


def raised(parts, by):
    """Tell the parts as they stand with so many more functions around."""
    return [part + by if is_level(part) else part for part in parts]


def free_words(parts):
    """Tell the sorted list of the words of free names."""
    return sorted({part for part in parts if isinstance(part, str)})


def told_words(parts):
    """Tell the list of the words by which functions are written, by their levels."""
    return spare_words(free_words(parts), max(depths(parts)))


def needs_brackets(part, place):
    """Tell whether a part stands in brackets at such a place."""
    if part == FUN:
        return place != WHOLE
    return part == PUT and place == ARGUMENT


def text_pieces(parts):
    """Tell the list of the pieces that make up the text of a whole term."""
    words = told_words(parts)
    pieces = []
    # For each part to come: how many functions are around, its place, and what is written behind its text.
    waiting = [(0, WHOLE, "")]
    for part in parts:
        depth, place, behind = waiting.pop()
        if needs_brackets(part, place):
            pieces.append("(")
            behind = ")" + behind
        if part == FUN:
            pieces.append(f"[{words[depth]}] ")
            waiting.append((depth + 1, WHOLE, behind))
        elif part == PUT:
            waiting.append((depth, ARGUMENT, behind))
            waiting.append((depth, FUNCTION, " "))
        elif is_level(part):
            pieces.append(words[part] + behind)
        else:
            pieces.append(part + behind)
    return pieces
