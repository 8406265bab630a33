"""Nets: terms as knots and ties, in which forks share what was doubled."""

from fanweave.errors import NoKnot, NoMeeting
from fanweave.reading import Reading
from fanweave.terms import Term
from fanweave.weaving import woven
from fanweave.webs import PUT_KNOT, knot_at, place_at
from fanweave.wholes import is_whole


class Net:
    """The net of a term."""

    def __init__(self, term):
        self.web = woven(term.parts)
        # What is read now, None where that is not known.
        self.reading = None

    def meetings(self):
        """Tell the sorted list of all meetings, each a tuple of the numbers of two knots, the lesser first."""
        return sorted([(knot, other) for knot, other in self.web.met.items() if knot < other])

    def fire(self, pair):
        """Do the meeting of such a tuple; tell whether it was a turn or a move."""
        if not is_meeting(self.web, pair):
            raise NoMeeting("no two knots meet by these numbers")
        one, other = pair
        self.reading = None
        return self.web.fire(one, other)

    def knots(self):
        """Tell the list of all knots, by numbers, each a tuple of its number, its kind, its level and its word."""
        web = self.web
        return [(knot, kind, web.levels[knot], web.words[knot]) for knot, kind in web.kinds.items()]

    def ties(self):
        """Tell the sorted list of all ties, each a tuple of a knot's number, its hook's, another knot's, its hook's."""
        pairs = sorted([(one, other) for one, other in self.web.tied.items() if one < other])
        return [(knot_at(one), place_at(one), knot_at(other), place_at(other)) for one, other in pairs]

    def read(self):
        """Tell the term that is read from the root."""
        reading = self.read_now()
        return Term(reading.row)

    def where(self, number):
        """Tell the sorted list of the addresses at which the put of this number is read."""
        if not is_whole(number) or self.web.kinds.get(number) != PUT_KNOT:
            raise NoKnot("no put has this number")
        reading = self.read_now()
        return reading.addresses_of(number)

    def copy(self):
        """Tell a net of its own that is as this one is."""
        return net_of(self.web.twin())

    def read_now(self):
        """Tell the reading of the net as it is now."""
        if self.reading is None:
            self.reading = Reading(self.web)
        return self.reading


def net_of(web):
    """Tell the net that has just this web."""
    net = Net(Term(["x"]))
    net.web = web
    return net


def is_meeting(web, thing):
    """Tell of anything whether it is the tuple of two knots of the web that meet, the lesser first."""
    if not isinstance(thing, tuple) or len(thing) != 2:
        return False
    one, other = thing
    return is_whole(one) and is_whole(other) and one < other and web.met.get(one) == other
