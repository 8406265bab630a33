"""The refusals: each kind has a class of its own, straight under SpinError."""


class SpinError(ValueError):
    """Any refusal."""


class NoWord(SpinError):
    """What was handed in as a word is none."""


class NoAddress(SpinError):
    """What was handed in as an address is none of the term."""


class NoRedex(SpinError):
    """At the address stands no redex."""


class NotDone(SpinError):
    """The machine is not done yet."""


class NoBack(SpinError):
    """So much can not be taken back."""


class NoMeeting(SpinError):
    """What was handed in is no meeting of the net."""


class NoKnot(SpinError):
    """What was handed in is not the number of such a knot."""


class NoNumber(SpinError):
    """What was handed in is no number for a numeral."""


class NoNet(SpinError):
    """The machine has no net."""


class NoLine(SpinError):
    """What was told is no line of a desk."""


class NoText(SpinError):
    """What was handed in is not such a text; at tells how far it may be one."""

    def __init__(self, at):
        super().__init__(f"no such text, from {at} on")
        self.at = at


class TooLong(SpinError):
    """More turns than most, or more moves than so many; the other one is None."""

    def __init__(self, turns, moves=None):
        super().__init__(f"more than let: turns {turns}, moves {moves}")
        self.turns = turns
        self.moves = moves


class NoName(SpinError):
    """Nothing is kept by the word."""

    def __init__(self, word):
        super().__init__(f"nothing is kept by {word}")
        self.word = word
