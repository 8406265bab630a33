"""Webs: the knots of a net and their ties, and what comes of their meetings.

A hook is kept as one number: WIDTH times the number of its knot, and its place there, which is 0 for the chief hook.
So all of a web stands in dicts of plain things, which are copied at once. Knots stand in them by their numbers, as
they are made.
"""

ROOT = "root"
NAME = "name"
END = "end"
PUT_KNOT = "put"
FUN_KNOT = "fun"
FORK = "fork"
OPENER = "opener"
BOX = "box"

# How many hooks a knot of each kind has; those through which walks go on, and other knots.
HOOKS = {"root": 1, "name": 1, "end": 1, "put": 3, "fun": 3, "fork": 3, "opener": 2, "box": 2}
THROUGH = ("fork", "opener", "box")

WIDTH = 4
CHIEF = 0
# The further hooks of a put, and of a function.
ANSWER = 1
ARGUMENT = 2
BODY = 1
BOUND = 2

TURN = "turn"
MOVE = "move"


def hook_of(knot, place):
    """Tell the hook at a place of a knot."""
    return WIDTH * knot + place


def knot_at(hook):
    """Tell the number of the knot that has the hook."""
    return hook // WIDTH


def place_at(hook):
    """Tell the place that the hook has at its knot."""
    return hook - WIDTH * knot_at(hook)


class Web:
    """Knots by their numbers: kinds, levels, the words of names, and for each hook the one to which it is tied."""

    def __init__(self):
        self.kinds = {}
        self.levels = {}
        self.words = {}
        self.tied = {}
        # For each knot that meets another one, that one.
        self.met = {}
        # How many numbers were given, those of knots that went, too.
        self.given = 0

    def new_knot(self, kind, level, word=None):
        """Make a knot that is tied to nothing yet; tell its number."""
        knot = self.given
        self.given += 1
        self.kinds[knot] = kind
        self.levels[knot] = level
        self.words[knot] = word
        return knot

    def tie(self, one, other):
        """Tie two hooks to one another."""
        self.tied[one] = other
        self.tied[other] = one
        if place_at(one) == CHIEF and place_at(other) == CHIEF:
            self.let_meet(knot_at(one), knot_at(other))

    def let_meet(self, one, other):
        """Put down that two knots meet whose chiefs are tied to one another, where such two do."""
        if self.deed(one, other) is not None:
            self.met[one] = other
            self.met[other] = one

    def hooks_of(self, knot):
        """Tell the list of the hooks of a knot, its chief first."""
        return [hook_of(knot, place) for place in range(HOOKS[self.kinds[knot]])]

    def drop_knot(self, knot):
        """Let a knot go; the one that it meets goes, too."""
        for hook in self.hooks_of(knot):
            del self.tied[hook]
        del self.kinds[knot]
        del self.levels[knot]
        del self.words[knot]
        self.met.pop(knot, None)

    def twin(self):
        """Tell a web of its own that is as this one is."""
        web = Web()
        web.kinds = self.kinds.copy()
        web.levels = self.levels.copy()
        web.words = self.words.copy()
        web.tied = self.tied.copy()
        web.met = self.met.copy()
        web.given = self.given
        return web

    def is_less(self, lesser, greater):
        """Tell whether the first one of two knots lets the second one through, as one of a greater level."""
        # Roots, names and ends have no level above another.
        return self.kinds[lesser] in THROUGH and self.levels[lesser] < self.levels[greater]

    def deed(self, one, other):
        """Tell what it is when two knots meet, None where such two don't."""
        kinds = (self.kinds[one], self.kinds[other])
        if self.levels[one] == self.levels[other]:
            if kinds in ((PUT_KNOT, FUN_KNOT), (FUN_KNOT, PUT_KNOT)):
                return TURN
            return MOVE if kinds in ((FORK, FORK), (OPENER, OPENER), (BOX, BOX)) else None
        return MOVE if self.is_less(one, other) or self.is_less(other, one) else None

    def fire(self, one, other):
        """Do the meeting of two knots; tell what it was."""
        deed = self.deed(one, other)
        if self.is_less(one, other):
            self.let_through(one, other)
        elif self.is_less(other, one):
            self.let_through(other, one)
        else:
            # Of a put and a function, too: its answer is tied to the body, its argument to the name.
            self.tie_across(one, other)
        self.drop_knot(one)
        self.drop_knot(other)
        return deed

    def tie_across(self, one, other):
        """Tie what is at the further hooks of two knots to one another, second to second, third to third."""
        across = {}
        for mine, its in list(zip(self.hooks_of(one), self.hooks_of(other)))[1:]:
            across[mine] = its
            across[its] = mine
        for hook in across:
            outside = self.tied[hook]
            if outside not in across:
                behind = self.tied[across[hook]]
                # Where hooks of the two are tied to one another, it is what comes behind them.
                while behind in across:
                    behind = self.tied[across[behind]]
                self.tie(outside, behind)

    def let_through(self, lesser, greater):
        """Let the greater one of two knots go through the lesser one."""
        level = self.levels[greater]
        if self.kinds[lesser] == OPENER:
            level -= 1
        elif self.kinds[lesser] == BOX:
            level += 1
        # For each further hook of the two the chief that comes in its stead.
        chiefs = {}
        through = []
        for hook in self.hooks_of(lesser)[1:]:
            knot = self.new_knot(self.kinds[greater], level)
            through.append(knot)
            chiefs[hook] = hook_of(knot, CHIEF)
        for hook in self.hooks_of(greater)[1:]:
            guard = self.new_knot(self.kinds[lesser], self.levels[lesser])
            chiefs[hook] = hook_of(guard, CHIEF)
            for place, knot in enumerate(through):
                self.tie(hook_of(guard, place + 1), hook_of(knot, place_at(hook)))
        for hook, chief in chiefs.items():
            outside = self.tied[hook]
            self.tie(chief, chiefs.get(outside, outside))
