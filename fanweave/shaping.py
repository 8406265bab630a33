"""Shapes as far as they are known: what is asked of the shapes of a term's parts, solved in the widest way.

Shapes are told by numbers. Some lead from one shape to another, all others are letters; of two that are to be alike
one stands for the other.
"""

from fanweave.parts import FUN, PUT, depths, ends
from fanweave.words import nth_word


class Shapes:
    """Shapes by their numbers."""

    def __init__(self):
        # For each shape one that stands for it, itself where none does.
        self.stands = []
        # For each shape the tuple of the two from and to which it leads, None of a letter.
        self.arrows = []

    def new_letter(self):
        """Make a letter; tell its number."""
        return self.new_shape(None)

    def new_arrow(self, one, other):
        """Make a shape that leads from one to another; tell its number."""
        return self.new_shape((one, other))

    def new_shape(self, arrow):
        """Make a shape; tell its number."""
        self.stands.append(len(self.arrows))
        self.arrows.append(arrow)
        return len(self.arrows) - 1

    def chief(self, shape):
        """Tell the one that stands for a shape and for all that are alike."""
        while self.stands[shape] != shape:
            # So the way is half as long when it is gone again.
            self.stands[shape] = self.stands[self.stands[shape]]
            shape = self.stands[shape]
        return shape

    def arrow_of(self, shape):
        """Tell the tuple of those that stand for the two from and to which a shape leads, None of a letter."""
        arrow = self.arrows[self.chief(shape)]
        if arrow is None:
            return None
        one, other = arrow
        return self.chief(one), self.chief(other)

    def make_alike(self, one, other):
        """Let two shapes be alike, and all within them."""
        waiting = [(one, other)]
        while len(waiting) > 0:
            one, other = waiting.pop()
            one = self.chief(one)
            other = self.chief(other)
            if one != other:
                arrow = self.arrows[one]
                if arrow is None:
                    self.stands[one] = other
                elif self.arrows[other] is None:
                    self.stands[other] = one
                else:
                    self.stands[one] = other
                    waiting.extend(list(zip(arrow, self.arrows[other])))

    def is_endless(self):
        """Tell whether a shape stands within itself."""
        # For each shape that stands for itself: False while what is within it is gone through, True behind that.
        passed = {}
        for first in range(len(self.stands)):
            waiting = [self.chief(first)]
            while len(waiting) > 0:
                shape = waiting[-1]
                if shape in passed:
                    passed[shape] = True
                    waiting.pop()
                else:
                    passed[shape] = False
                    within = self.arrow_of(shape) or ()
                    if any([passed.get(each) is False for each in within]):
                        return True
                    waiting.extend([each for each in within if each not in passed])
        return False

    def texts_of(self, wanted):
        """Tell the list of the texts of shapes; letters are written as they first come, shape by shape."""
        texts = {}
        letters = 0
        for first in wanted:
            waiting = [self.chief(first)]
            while len(waiting) > 0:
                shape = waiting[-1]
                arrow = self.arrow_of(shape)
                unwritten = [each for each in arrow or () if each not in texts]
                if shape in texts:
                    waiting.pop()
                elif arrow is None:
                    texts[shape] = nth_word(letters)
                    letters += 1
                elif len(unwritten) > 0:
                    # What it leads from is written ahead of what it leads to.
                    waiting.append(unwritten[0])
                else:
                    one, other = arrow
                    texts[shape] = f"({texts[one]} > {texts[other]})"
        return [texts[self.chief(shape)] for shape in wanted]


def shapes_of_parts(parts):
    """Tell what the shapes of a row's parts must be, in the widest way: a part's shape has the part's place as number.

    Where there are no such shapes, one stands within itself.
    """
    shapes = Shapes()
    for _ in parts:
        shapes.new_letter()
    behind = ends(parts)
    # For free words, and for the functions around a part, by their levels: the shape of the names.
    names = {}
    for place, depth in enumerate(depths(parts)):
        part = parts[place]
        if part == FUN:
            names[depth] = shapes.new_letter()
            shapes.make_alike(place, shapes.new_arrow(names[depth], place + 1))
        elif part == PUT:
            shapes.make_alike(place + 1, shapes.new_arrow(behind[place + 1], place))
        else:
            shapes.make_alike(place, names.setdefault(part, place))
    return shapes
