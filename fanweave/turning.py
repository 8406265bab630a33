"""Turns on rows of parts: where redexes stand, and what comes of some of them when they are turned at once."""

from fanweave.parts import FUN, PUT, depths, ends, is_level

# On which side of a function's label a step of a way leads (labels.py): over it to a body, under it to an argument.
OVER = 0
UNDER = 1


def is_redex(parts, place):
    """Tell whether a redex stands at the place."""
    return parts[place] == PUT and parts[place + 1] == FUN


def redex_places(parts):
    """Tell the list of the places of all redexes, in order."""
    return [place for place in range(len(parts)) if is_redex(parts, place)]


def leftmost_place(parts):
    """Tell the place of the leftmost redex, None where there is none."""
    for place in range(len(parts)):
        if is_redex(parts, place):
            return place
    return None


class Argument:
    """What a turned function was given: the place where it stands, and what is around there."""

    def __init__(self, place, around, function):
        self.place = place
        self.around = around
        # The place of the function.
        self.function = function


class Turning:
    """The redexes at some places of a row, turned at once: each of them and of what comes of them just once.

    Arguments are gone through where names of turned functions are met, so those that nobody names cost nothing.
    """

    def __init__(self, parts, places):
        self.parts = parts
        self.ends = ends(parts)
        self.marked = {place: True for place in places}
        # For each part of the new row: the part, the place at which it stood, and the way that led there: a list of
        # steps (place, function, side), from the part at a place over or under the turned function at another one.
        self.row = []
        self.origins = []
        self.ways = []
        self.turn_all()

    def turn_all(self):
        """Fill the new row."""
        depth_at = depths(self.parts)
        behind = 0
        for place in sorted(self.marked):
            # Those within a redex that is turned were turned with it.
            if place >= behind:
                self.leave(behind, place)
                self.turn(place, depth_at[place])
                behind = self.ends[place]
        self.leave(behind, len(self.parts))

    def leave(self, start, behind):
        """Let the parts from start on follow as they are, up to the place behind them."""
        self.row.extend(self.parts[start:behind])
        self.origins.extend(list(range(start, behind)))
        self.ways.extend([[]] * (behind - start))

    def turn(self, start, depth):
        """Let what comes of the redex at start follow, with so many functions around it."""
        # For each part to come: its place, what is around it (for each function an Argument or its new level), how
        # many functions are around it in the new row, and the way there.
        waiting = [(start, list(range(depth)), depth, [])]
        while len(waiting) > 0:
            place, around, depth, way = waiting.pop()
            part = self.parts[place]
            if place in self.marked:
                argument = Argument(self.ends[place + 1], around, place + 1)
                waiting.append((place + 2, [*around, argument], depth, [*way, (place, place + 1, OVER)]))
            elif is_level(part) and isinstance(around[part], Argument):
                argument = around[part]
                waiting.append((argument.place, argument.around, depth, [*way, (place, argument.function, UNDER)]))
            else:
                self.row.append(around[part] if is_level(part) else part)
                self.origins.append(place)
                self.ways.append(way)
                if part == FUN:
                    waiting.append((place + 1, [*around, depth], depth + 1, []))
                elif part == PUT:
                    waiting.append((self.ends[place + 1], around, depth, []))
                    waiting.append((place + 1, around, depth, []))


def turned_row(parts, places):
    """Tell the row that comes of turning the redexes at these places at once."""
    turning = Turning(parts, places)
    return turning.row
