"""Terms read from webs."""

from fanweave.parts import FUN, PUT, addresses_at
from fanweave.walks import Walker
from fanweave.webs import ARGUMENT, BODY, CHIEF, NAME, PUT_KNOT, hook_of, knot_at, place_at

# The root is the knot 0.
ROOT_HOOK = 0


class Reading:
    """The term that is read from a web's root: its row of parts, and for each part the knot at which it is read."""

    def __init__(self, web):
        self.web = web
        self.walker = Walker(web)
        self.row = []
        self.read_at = []
        # For each part to come: the hook from which it is read, with which place, and the functions around it: each
        # the tuple of the knot at which it was read and the first levels there.
        self.waiting = [(ROOT_HOOK, [], ())]
        while len(self.waiting) > 0:
            hook, place, around = self.waiting.pop()
            self.read(hook, place, around)

    def read(self, start, ahead, around):
        """Read a part."""
        hook, place = self.walker.walk(start, ahead)
        knot = knot_at(hook)
        self.read_at.append(knot)
        if self.web.kinds[knot] == NAME:
            self.row.append(self.web.words[knot])
        elif self.web.kinds[knot] == PUT_KNOT:
            self.row.append(PUT)
            self.waiting.append((hook_of(knot, ARGUMENT), place[:self.web.levels[knot]], around))
            self.waiting.append((hook_of(knot, CHIEF), place, around))
        elif place_at(hook) == CHIEF:
            self.row.append(FUN)
            around = (*around, (knot, self.walker.first_levels(place, knot)))
            self.waiting.append((hook_of(knot, BODY), place, around))
        else:
            self.row.append(innermost(around, (knot, self.walker.first_levels(place, knot))))

    def addresses_of(self, put):
        """Tell the sorted list of the addresses at which a put is read."""
        return addresses_at(self.row, [place for place, knot in enumerate(self.read_at) if knot == put])


def innermost(around, wanted):
    """Tell how many functions stand around the innermost one of those around that is the wanted one."""
    level = len(around) - 1
    while around[level] != wanted:
        level -= 1
    return level
