"""The search for the first redex that is read in a web, and for the meeting that is due there."""

from fanweave.reading import ROOT_HOOK
from fanweave.walks import Walker
from fanweave.webs import ANSWER, ARGUMENT, BODY, CHIEF, FUN_KNOT, PUT_KNOT, hook_of, knot_at, place_at


class Search:
    """Where a search stands. Behind a meeting it goes on there, as if it had begun at the root.

    For no redex is ahead of the first one; a move leaves all that is read, a turn all but what is within the redex;
    and a tie is come to with the same place as long as both of its knots stay. So the way is gone anew only where one
    of its knots went.
    """

    def __init__(self, web):
        self.web = web
        self.walker = Walker(web)
        # The parts on the way from the root to the one that is searched: the hook from which each is read, the place.
        self.path = []
        # The put of the first redex, the last part on the way, where that is known.
        self.put = None
        # Where the walk to the last part on the way may be taken up: a hook and a place, None where that is not known.
        self.near = None
        self.begin()

    def begin(self):
        """Stand at the root."""
        self.path = [(ROOT_HOOK, [])]
        self.put = None
        self.near = None

    def next_meeting(self):
        """Search the first redex; tell the tuple of the first two knots that meet on its walk, None without one."""
        while self.put is None and len(self.path) > 0:
            self.go_on()
        if self.put is None:
            return None
        return self.first_meeting(self.put)

    def go_on(self):
        """Go on by a part."""
        start, ahead = self.path[-1]
        hook, place = self.walk_on(start, ahead)
        knot = knot_at(hook)
        if self.web.kinds[knot] == PUT_KNOT:
            self.path.append((hook_of(knot, CHIEF), place))
        elif self.web.kinds[knot] != FUN_KNOT or place_at(hook) != CHIEF:
            self.leave()
        elif self.is_chief_of_put(start):
            self.take_put()
        else:
            self.path.append((hook_of(knot, BODY), place))

    def walk_on(self, start, ahead):
        """Walk to the last part on the way; tell the hook come to, and the place."""
        if self.near is not None:
            start, ahead = self.near
            self.near = None
        return self.walker.walk(start, ahead)

    def take_put(self):
        """Be at the put whose function was come to: the first redex."""
        start, place = self.path.pop()
        self.put = knot_at(start)
        # A put's function is read with the place with which the put was come to.
        self.near = (self.web.tied[hook_of(self.put, ANSWER)], place)

    def leave(self):
        """Go on behind a part in which there is no redex: to the argument of the put whose function it ends."""
        while len(self.path) > 0:
            start, place = self.path.pop()
            if self.is_chief_of_put(start):
                put = knot_at(start)
                self.path.append((hook_of(put, ARGUMENT), place[:self.web.levels[put]]))
                return

    def is_chief_of_put(self, hook):
        """Tell whether a put's function is read from the hook."""
        return place_at(hook) == CHIEF and self.web.kinds[knot_at(hook)] == PUT_KNOT

    def first_meeting(self, put):
        """Tell the tuple of the first two knots that meet on the walk from the chief of a redex's put."""
        knot = put
        # Ahead of these each knot is come to at a further hook, and left by its chief.
        while knot not in self.web.met:
            knot = knot_at(self.web.tied[hook_of(knot, CHIEF)])
        other = self.web.met[knot]
        return (min(knot, other), max(knot, other))

    def go_behind(self, pair):
        """Be told that the meeting which was told last was done."""
        if any([knot_at(start) in pair for start, _ in self.path]):
            self.begin()
        if self.near is not None and knot_at(self.near[0]) in pair:
            self.near = None
        if self.put in pair:
            self.put = None
