"""Walks through webs, over ties and through knots, each with a place.

A place is kept as a list of levels, as many as are needed: all behind them are empty ones. A level is kept as a
number, alike ones of one walker by one number.
"""

from fanweave.webs import CHIEF, FORK, OPENER, THROUGH, WIDTH

EMPTY = 0
# Stands where a mark does: the level is a pair.
PAIR = 0


class Walker:
    """Walks through one web, and the levels that were made on the way."""

    def __init__(self, web):
        self.web = web
        # What the levels are, by their numbers: (PAIR, level, level), or (mark, level, EMPTY), where the mark is the
        # place of a fork's hook. Nothing is within the empty one.
        self.made = [None]
        self.numbers = {}

    def level_of(self, mark, one, other):
        """Tell the number of the level that is made so."""
        key = (mark, one, other)
        if key not in self.numbers:
            self.numbers[key] = len(self.made)
            self.made.append(key)
        return self.numbers[key]

    def walk(self, hook, ahead):
        """Walk on from a hook with a place to a knot that is read; tell the hook come to, and the place there."""
        tied = self.web.tied
        kinds = self.web.kinds
        place = list(ahead)
        hook = tied[hook]
        while kinds[hook // WIDTH] in THROUGH:
            kind = kinds[hook // WIDTH]
            level = self.web.levels[hook // WIDTH]
            side = hook - hook // WIDTH * WIDTH
            if len(place) < level + 2:
                place.extend([EMPTY] * (level + 2 - len(place)))
            if side == CHIEF:
                hook = tied[hook + self.let_out(kind, level, place)]
            else:
                self.let_in(kind, level, place, side)
                hook = tied[hook - side]
        return hook, place

    def let_in(self, kind, level, place, side):
        """Change a place as a walk to the chief does, from the hook on this side."""
        if kind == OPENER:
            place.insert(level, EMPTY)
        elif kind == FORK:
            place[level] = self.level_of(side, place[level], EMPTY)
        else:
            place[level] = self.level_of(PAIR, place[level], place.pop(level + 1))

    def let_out(self, kind, level, place):
        """Change a place as a walk from the chief does; tell on which side it goes."""
        if kind == OPENER:
            place.pop(level)
            return 1
        mark, one, other = self.made[place[level]]
        place[level] = one
        if kind == FORK:
            return mark
        place.insert(level + 1, other)
        return 1

    def first_levels(self, place, knot):
        """Tell the tuple of a place's first levels, as many as the level of the knot."""
        many = self.web.levels[knot]
        return tuple(place[:many] + [EMPTY] * (many - len(place)))
