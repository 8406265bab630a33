"""Shapes read from their texts, and written."""

from fanweave.words import is_letter, is_word

ARROW = " > "


class ShapeReader:
    """Reads texts of shapes; tells shapes by numbers, alike ones by one."""

    def __init__(self):
        self.numbers = {}
        # For each shape by its number the tuple of the two from and to which it leads, None of a letter.
        self.arrows = []

    def number_of_letter(self, word):
        """Tell the number of the letter that is written so."""
        return self.number_at(word, None)

    def number_of_arrow(self, one, other):
        """Tell the number of the shape that leads from one to another."""
        return self.number_at((one, other), (one, other))

    def number_at(self, key, arrow):
        """Tell the number that is known by a key, a new one where there is none yet."""
        if key not in self.numbers:
            self.numbers[key] = len(self.arrows)
            self.arrows.append(arrow)
        return self.numbers[key]

    def read(self, text):
        """Tell the number of the shape of which this is the text, None where it is none of a shape."""
        # For each bracket that is not yet closed the shape ahead of its arrow, None till then.
        waiting = []
        at = 0
        while True:
            while text[at:at + 1] == "(":
                waiting.append(None)
                at += 1
            word = word_from(text, at)
            if not is_word(word):
                return None
            at += len(word)
            shape = self.number_of_letter(word)
            while len(waiting) > 0 and waiting[-1] is not None and text[at:at + 1] == ")":
                shape = self.number_of_arrow(waiting.pop(), shape)
                at += 1
            if len(waiting) == 0:
                return shape if at == len(text) else None
            if waiting[-1] is not None or text[at:at + len(ARROW)] != ARROW:
                return None
            waiting[-1] = shape
            at += len(ARROW)


def word_from(text, start):
    """Tell the small letters that follow one another in a text from here on."""
    at = start
    while is_letter(text[at:at + 1]):
        at += 1
    return text[start:at]
