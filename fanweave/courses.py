"""Courses: the four ways through the turns of a term to its worth, each of them forward alone.

A course has step, which goes on to behind the next turn and tells True, or, where none is left, False; behind that
its row is the worth's row of parts.
"""

from fanweave.parts import FUN, PUT, ends, is_level
from fanweave.turning import leftmost_place, turned_row


class PlaceCourse:
    """Turns the leftmost redex in its place."""

    def __init__(self, term):
        self.row = term.parts

    def step(self):
        """Go on to behind the next turn; tell whether there was one."""
        place = leftmost_place(self.row)
        if place is None:
            return False
        self.row = turned_row(self.row, [place])
        return True


class Function:
    """A head that is a function: its place, and what is around it, for each function one thing."""

    def __init__(self, place, around):
        self.place = place
        self.around = around


class Named:
    """A head that is a name, a free one by its word or a fresh one by its level, with the arguments handed to it."""

    def __init__(self, top, handed):
        self.top = top
        self.handed = handed


class Handed:
    """An argument that was handed as it stood: its place, what is around there, and its head where that is kept."""

    def __init__(self, place, around):
        self.place = place
        self.around = around
        self.head = None


class NameCourse:
    """Takes what stands to a head and reads the head; an argument is taken to one anew wherever its name is met.

    What is still to be done waits as a list of tasks, so however deep turns stand within one another, nothing
    recurses. What is around a part is a tuple of things, for each function: a Handed, or a head.
    """

    def __init__(self, term):
        self.parts = term.parts
        self.ends = ends(term.parts)
        self.row = []
        self.turned = False
        # What was come to last.
        self.head = None
        # Each task a method and what it is called with, the next one last.
        self.tasks = [(self.read, 0), (self.take, 0, ())]

    def step(self):
        """Go on to behind the next turn; tell whether there was one."""
        self.turned = False
        while len(self.tasks) > 0 and not self.turned:
            task, *things = self.tasks.pop()
            task(*things)
        return self.turned

    def take(self, place, around):
        """Take the part at a place to its head."""
        part = self.parts[place]
        if part == FUN:
            self.head = Function(place, around)
        elif part == PUT:
            self.tasks.append((self.hand, self.ends[place + 1], around))
            self.tasks.append((self.take, place + 1, around))
        elif is_level(part):
            self.meet(around[part])
        else:
            self.head = Named(part, ())

    def hand(self, place, around):
        """Hand the argument at a place to the head that was come to."""
        part = self.parts[place]
        if is_level(part):
            # A name stands for what was handed for it: so no row of names grows from turn to turn.
            self.give(self.head, around[part])
        else:
            self.give(self.head, Handed(place, around))

    def give(self, head, thing):
        """Give a head its argument; where it is a function, this is a turn."""
        if isinstance(head, Named):
            self.head = Named(head.top, (*head.handed, thing))
        else:
            self.turned = True
            self.tasks.append((self.take, head.place + 1, (*head.around, thing)))

    def meet(self, thing):
        """Take what a name or an argument stands for to its head."""
        if isinstance(thing, Handed):
            self.tasks.append((self.take, thing.place, thing.around))
        else:
            self.head = thing

    def read(self, depth):
        """Read the head that was come to, with so many functions around it."""
        head = self.head
        if isinstance(head, Named):
            self.row.extend([PUT] * len(head.handed))
            self.row.append(head.top)
            for thing in reversed(head.handed):
                self.tasks.append((self.read, depth))
                self.tasks.append((self.meet, thing))
        else:
            self.row.append(FUN)
            self.tasks.append((self.read, depth + 1))
            self.tasks.append((self.take, head.place + 1, (*head.around, Named(depth, ()))))


class NeedCourse(NameCourse):
    """Takes an argument to a head once, where it is met first, and keeps the head."""

    def meet(self, thing):
        """Take what a name or an argument stands for to its head, unless that is kept."""
        if isinstance(thing, Handed) and thing.head is None:
            self.tasks.append((self.keep, thing))
            self.tasks.append((self.take, thing.place, thing.around))
        elif isinstance(thing, Handed):
            self.head = thing.head
        else:
            self.head = thing

    def keep(self, thing):
        """Keep the head that was come to as that of what was handed."""
        thing.head = self.head


class ValueCourse(NameCourse):
    """Takes an argument to a head at once, behind its function, ahead of the turn."""

    def hand(self, place, around):
        """Take the argument at a place to its head, and give that to the head that was come to."""
        self.tasks.append((self.give_head, self.head))
        self.tasks.append((self.take, place, around))

    def give_head(self, head):
        """Give a head the one that was come to behind it."""
        self.give(head, self.head)
