"""Terms read from their texts."""

from fanweave.errors import NoText
from fanweave.parts import ARGUMENT, FUN, FUNCTION, PUT, WHOLE
from fanweave.terms import Term
from fanweave.words import LONGEST, is_letter


class Stretch:
    """What is read within one pair of brackets, or of the whole text: functions' words, a head, its arguments."""

    def __init__(self, place):
        self.place = place
        self.words = []
        # The place of the head among the parts: the puts of its arguments go ahead of it.
        self.head = 0
        # Whether it is no more than a name so far, and whether an argument must follow.
        self.bare = True
        self.due = False

    def may_end(self):
        """Tell whether what was read of it so far is whole and may stand there."""
        if self.place == ARGUMENT and self.bare:
            return False
        return not self.due


class Reader:
    """Reads a text from its first sign on; it stops at the first one that no such text has there."""

    def __init__(self, text):
        self.text = text
        self.at = 0
        self.stretches = [Stretch(WHOLE)]
        self.parts = []
        # How many puts stand straight ahead of each part: told only when the arguments behind it are read.
        self.puts = []
        self.levels = {}
        self.depth = 0

    def read(self):
        """Read the whole text and tell its row of parts."""
        self.read_head()
        while self.at < len(self.text):
            if self.sign() == ")":
                self.close_bracket()
            else:
                self.read_argument()
        if len(self.stretches) > 1 or not self.stretches[-1].may_end():
            raise NoText(self.at)
        row = []
        for part, many in zip(self.parts, self.puts):
            row.extend([PUT] * many)
            row.append(part)
        return row

    def sign(self):
        """Tell the sign that is read next, the empty text at the end."""
        return self.text[self.at:self.at + 1]

    def take(self, sign):
        """Go on behind the sign, which must stand here."""
        if self.sign() != sign:
            raise NoText(self.at)
        self.at += 1

    def take_word(self):
        """Go on behind the word that must stand here, and tell it."""
        start = self.at
        while self.at < start + LONGEST and is_letter(self.sign()):
            self.at += 1
        if self.at == start:
            raise NoText(self.at)
        return self.text[start:self.at]

    def add_part(self, part):
        """Let a part follow the ones that were read."""
        self.parts.append(part)
        self.puts.append(0)

    def read_head(self):
        """Read the functions that a stretch begins with, and on to behind the next name."""
        while self.sign() in ("[", "("):
            if self.sign() == "(":
                self.begin_head(True)
                self.open_bracket(FUNCTION)
            # Such brackets begin with a function, too: nothing else stands in brackets as a put's function.
            self.read_function()
        self.begin_head(False)
        self.read_name()

    def begin_head(self, due):
        """Let the next part be the head of the stretch; due tells whether an argument must follow it."""
        stretch = self.stretches[-1]
        stretch.head = len(self.parts)
        stretch.due = due

    def read_function(self):
        """Read the word of a function, up to its body."""
        self.take("[")
        word = self.take_word()
        self.take("]")
        self.take(" ")
        stretch = self.stretches[-1]
        stretch.words.append(word)
        stretch.bare = False
        self.levels.setdefault(word, []).append(self.depth)
        self.depth += 1
        self.add_part(FUN)

    def read_name(self):
        """Read a name."""
        word = self.take_word()
        levels = self.levels.get(word, [])
        if len(levels) == 0:
            self.add_part(word)
        else:
            self.add_part(levels[-1])

    def read_argument(self):
        """Read a blank and an argument; of one in brackets, on to behind its first name."""
        self.take(" ")
        stretch = self.stretches[-1]
        stretch.bare = False
        stretch.due = False
        self.puts[stretch.head] += 1
        if self.sign() == "(":
            self.open_bracket(ARGUMENT)
            self.read_head()
        else:
            self.read_name()

    def open_bracket(self, place):
        """Begin a stretch in brackets."""
        self.take("(")
        self.stretches.append(Stretch(place))

    def close_bracket(self):
        """End the last stretch, and the reach of its functions."""
        if len(self.stretches) == 1 or not self.stretches[-1].may_end():
            raise NoText(self.at)
        self.take(")")
        stretch = self.stretches.pop()
        for word in stretch.words:
            self.levels[word].pop()
        self.depth -= len(stretch.words)


def read_term(text):
    """Tell the term of which this is a text."""
    if not isinstance(text, str):
        raise NoText(0)
    reader = Reader(text)
    return Term(reader.read())
