"""The sharer: keeps a term as a net, and does each turn once for all places that came of one."""

from fanweave.errors import NoBack, NotDone, TooLong
from fanweave.nets import net_of
from fanweave.reading import Reading
from fanweave.searching import Search
from fanweave.terms import LIMIT, Term
from fanweave.tracing import Trace
from fanweave.weaving import woven
from fanweave.webs import TURN
from fanweave.wholes import is_whole


class Sharer:
    """Works a term out to its worth by the meetings of its net.

    The same meetings, done in a net of the same term, come to the same whenever they are done. So a sharer that was
    taken back does those that are left anew when it is next asked for more.
    """

    def __init__(self, term):
        self.term = term
        self.turns = 0
        self.moves = 0
        # For each step done the tuple (knot, knot, deed) of its meeting.
        self.fired = []
        # The worth where the machine is done, else None.
        self.result = None
        # Stands in the web behind the steps done; None where that is to be made anew.
        self.search = None
        # The rows of the trail that are known, those of the first turns; and what works out more, at none of the
        # steps to come, or None.
        self.rows = []
        self.trace = None

    def step(self):
        """Do the meeting that is due and tell whether it was a turn or a move; without one, be done and tell None."""
        pair = self.meeting_due()
        return None if pair is None else self.do(pair)

    def run(self, *, most=LIMIT, moves=20 * LIMIT):
        """Go on till the machine is done, by at most so many turns and so many moves."""
        ahead = self.copy()
        pair = self.meeting_due()
        while pair is not None:
            if self.is_turn(pair) and self.turns - ahead.turns >= most:
                self.be_as(ahead)
                raise TooLong(most)
            if not self.is_turn(pair) and self.moves - ahead.moves >= moves:
                self.be_as(ahead)
                raise TooLong(None, moves)
            self.do(pair)
            pair = self.meeting_due()

    def done(self):
        """Tell whether the machine is done."""
        return self.result is not None

    def worth(self):
        """Tell the worth."""
        if self.result is None:
            raise NotDone("the machine is not done")
        return self.result

    def back(self, *, many=1):
        """Take the last steps back."""
        if not is_whole(many) or many > len(self.fired):
            raise NoBack("so many steps were not done")
        if many > 0:
            self.go_back_to(len(self.fired) - many)

    def net(self):
        """Tell the net as it is now, one of its own."""
        search = self.reached()
        return net_of(search.web.twin())

    def trail(self):
        """Tell the list, for each turn done, of the list of the addresses at which its put was read."""
        if self.trace is None:
            self.trace = Trace(self.term)
        self.trace.follow(self.fired, self.rows)
        return [list(row) for row in self.rows]

    def copy(self):
        """Tell a machine of its own with the same steps done."""
        twin = Sharer(self.term)
        twin.be_as(self)
        return twin

    def reached(self):
        """Tell the search behind the steps done."""
        if self.search is None:
            web = woven(self.term.parts)
            for one, other, _ in self.fired:
                web.fire(one, other)
            self.search = Search(web)
        return self.search

    def meeting_due(self):
        """Tell the tuple of the knots of the meeting that is due; without one, be done and tell None."""
        if self.result is not None:
            return None
        search = self.reached()
        pair = search.next_meeting()
        if pair is None:
            reading = Reading(search.web)
            self.result = Term(reading.row)
        return pair

    def is_turn(self, pair):
        """Tell whether a meeting that is due is a turn."""
        one, other = pair
        return self.search.web.deed(one, other) == TURN

    def do(self, pair):
        """Do the meeting that is due; tell what it was."""
        one, other = pair
        deed = self.search.web.fire(one, other)
        self.search.go_behind(pair)
        self.fired.append((one, other, deed))
        if deed == TURN:
            self.turns += 1
        else:
            self.moves += 1
        return deed

    def go_back_to(self, many):
        """Be not done, behind so many of the steps done."""
        turns = len([row for row in self.fired[:many] if row[2] == TURN])
        self.turns = turns
        self.moves = many - turns
        self.fired = self.fired[:many]
        self.result = None
        self.search = None
        self.rows = self.rows[:turns]
        self.trace = None

    def be_as(self, other):
        """Be where another machine of the same term is."""
        self.turns = other.turns
        self.moves = other.moves
        self.fired = list(other.fired)
        self.result = other.result
        self.search = None if other.search is None else Search(other.search.web.twin())
        self.rows = list(other.rows)
        self.trace = None
