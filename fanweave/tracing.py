"""Traces: the addresses of the turns among meetings that were done, worked out where they are asked for."""

from fanweave.reading import Reading
from fanweave.weaving import woven
from fanweave.webs import PUT_KNOT, TURN


class Trace:
    """Follows the meetings that were done in a term's net."""

    def __init__(self, term):
        self.web = woven(term.parts)
        # How many meetings were followed, and how many of them were turns.
        self.followed = 0
        self.turns = 0

    def follow(self, fired, rows):
        """Follow the meetings, tuples (knot, knot, deed); let the rows of the turns among them stand in the list.

        The rows of the first turns may stand there already.
        """
        for one, other, deed in fired[self.followed:]:
            if deed == TURN:
                self.turns += 1
                if self.turns > len(rows):
                    reading = Reading(self.web)
                    rows.append(reading.addresses_of(self.put_of(one, other)))
            self.web.fire(one, other)
            self.followed += 1

    def put_of(self, one, other):
        """Tell which one of two knots is a put."""
        return one if self.web.kinds[one] == PUT_KNOT else other
