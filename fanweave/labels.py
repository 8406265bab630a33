"""Families: which turns came of one redex, as told by the labels of parts."""

from fanweave.errors import TooLong
from fanweave.parts import addresses_at
from fanweave.plain import redex_place
from fanweave.terms import LIMIT, Term
from fanweave.turning import Turning, leftmost_place, redex_places


class LabelledRun:
    """A term on its way through turns, a label for each of its parts, and a number for each degree so far."""

    def __init__(self, term):
        self.term = term
        # A label is a tuple of letters, letters are numbers: the first ones are the places of the parts.
        self.labels = [(place,) for place in range(len(term))]
        self.first_letters = len(term)
        self.numbers = {}

    def leftmost(self):
        """Tell the place of the leftmost redex, None where there is none."""
        return leftmost_place(self.term.parts)

    def goes_on(self, done, most):
        """Tell whether a redex is left; refuse to go on where most were done already."""
        if self.leftmost() is None:
            return False
        if done >= most:
            raise TooLong(most)
        return True

    def number_at(self, function):
        """Tell the number of the degree that a function's label is: from 0 on, as they are first asked for."""
        return self.numbers.setdefault(self.labels[function], len(self.numbers))

    def family_at(self, place):
        """Tell the number of the family of the redex at a place."""
        return self.number_at(place + 1)

    def family_places(self, place):
        """Tell the list of the places of all redexes of the family of the one at a place, in order."""
        degree = self.labels[place + 1]
        return [other for other in redex_places(self.term.parts) if self.labels[other + 1] == degree]

    def turn(self, places):
        """Turn the redexes at these places at once."""
        turning = Turning(self.term.parts, places)
        self.labels = [self.label_behind(way, origin) for way, origin in zip(turning.ways, turning.origins)]
        self.term = Term(turning.row)

    def label_behind(self, way, origin):
        """Tell the label that the part which stood at origin has behind such a way."""
        if len(way) == 0:
            return self.labels[origin]
        letters = []
        for place, function, side in way:
            letters.extend(self.labels[place])
            # Two letters for each degree, over and under it, unlike the first ones.
            letters.append(self.first_letters + 2 * self.number_at(function) + side)
        letters.extend(self.labels[origin])
        return tuple(letters)


def rows_to_worth(run, most):
    """Tell the list of a run's rounds from here to the worth, each one done, as at most so many lists."""
    told = []
    while run.goes_on(len(told), most):
        places = run.family_places(run.leftmost())
        told.append(addresses_at(run.term.parts, places))
        run.turn(places)
    return told


def families(term, *, most=LIMIT):
    """Tell the list, for each turn of the leftmost run, of the tuple of its address and its family's number."""
    run = LabelledRun(term)
    told = []
    while run.goes_on(len(told), most):
        place = run.leftmost()
        address = addresses_at(run.term.parts, [place])[0]
        told.append((address, run.family_at(place)))
        run.turn([place])
    return told


def rounds(term, *, most=LIMIT):
    """Tell the list, for each family of the leftmost run, of the list of addresses at which it is turned at once."""
    return rows_to_worth(LabelledRun(term), most)


def run_families(term, addresses):
    """Tell the list of the numbers of the families of redexes, each at its address behind the turns ahead of it."""
    run = LabelledRun(term)
    told = []
    for address in addresses:
        place = redex_place(run.term, address)
        told.append(run.family_at(place))
        run.turn([place])
    return told
