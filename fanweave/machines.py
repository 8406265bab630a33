"""The four plain machines, which work a term out to its worth by place, by name, by need and by value."""

from fanweave.courses import NameCourse, NeedCourse, PlaceCourse, ValueCourse
from fanweave.errors import NoBack, NotDone, TooLong
from fanweave.terms import LIMIT, Term
from fanweave.wholes import is_whole


class Machine:
    """What the four have in common: a course through the turns of a term.

    Courses go forward alone, and by the same turns whenever they are gone. So a machine that was taken back, and a
    copy, goes through its turns anew when it is next told to go on.
    """

    def __init__(self, term):
        self.term = term
        self.turns = 0
        # The worth where the machine is done, else None.
        self.result = None
        # Stands behind the turns done; None where it is to be gone anew.
        self.course = None

    def reached(self):
        """Tell the course behind the turns done."""
        if self.course is None:
            self.course = self.new_course()
            for _ in range(self.turns):
                self.course.step()
        return self.course

    def go_on(self):
        """Go on to behind the next turn; tell whether there was one."""
        if self.result is not None:
            return False
        course = self.reached()
        if course.step():
            self.turns += 1
            return True
        self.result = Term(course.row)
        return False

    def go_to_end(self, most):
        """Go on till the machine is done, or not at all."""
        ahead = self.turns
        while self.go_on():
            if self.turns - ahead > most:
                self.go_back_to(ahead)
                raise TooLong(most)

    def go_back_to(self, turns):
        """Be not done, behind so many turns."""
        self.turns = turns
        self.result = None
        self.course = None

    def take_back(self, many):
        """Take the last turns back, so many."""
        if not is_whole(many) or many > self.turns:
            raise NoBack("so many turns were not done")
        if many > 0:
            self.go_back_to(self.turns - many)

    def told_worth(self):
        """Tell the worth of a machine that is done."""
        if self.result is None:
            raise NotDone("the machine is not done")
        return self.result

    def as_far_as(self, other):
        """Be where another machine of the same term is."""
        self.turns = other.turns
        self.result = other.result
        return self


class Placer(Machine):
    """By place: turns the leftmost redex in its place."""

    def new_course(self):
        """Tell the course from the term on."""
        return PlaceCourse(self.term)

    def step(self):
        """Go on to behind the next turn and tell True; where none is left, be done and tell False."""
        return self.go_on()

    def run(self, *, most=LIMIT):
        """Go on till the machine is done, by at most so many turns."""
        self.go_to_end(most)

    def done(self):
        """Tell whether the machine is done."""
        return self.result is not None

    def worth(self):
        """Tell the worth."""
        return self.told_worth()

    def back(self, *, many=1):
        """Take the last turns back."""
        self.take_back(many)

    def copy(self):
        """Tell a machine of its own with the same turns done."""
        return Placer(self.term).as_far_as(self)


class Namer(Machine):
    """By name: an argument is taken to a head anew wherever its name is met."""

    def new_course(self):
        """Tell the course from the term on."""
        return NameCourse(self.term)

    def step(self):
        """Go on to behind the next turn and tell True; where none is left, be done and tell False."""
        return self.go_on()

    def run(self, *, most=LIMIT):
        """Go on till the machine is done, by at most so many turns."""
        self.go_to_end(most)

    def done(self):
        """Tell whether the machine is done."""
        return self.result is not None

    def worth(self):
        """Tell the worth."""
        return self.told_worth()

    def back(self, *, many=1):
        """Take the last turns back."""
        self.take_back(many)

    def copy(self):
        """Tell a machine of its own with the same turns done."""
        return Namer(self.term).as_far_as(self)


class Needer(Machine):
    """By need: an argument is taken to a head once, where its name is met first, and the head is kept."""

    def new_course(self):
        """Tell the course from the term on."""
        return NeedCourse(self.term)

    def step(self):
        """Go on to behind the next turn and tell True; where none is left, be done and tell False."""
        return self.go_on()

    def run(self, *, most=LIMIT):
        """Go on till the machine is done, by at most so many turns."""
        self.go_to_end(most)

    def done(self):
        """Tell whether the machine is done."""
        return self.result is not None

    def worth(self):
        """Tell the worth."""
        return self.told_worth()

    def back(self, *, many=1):
        """Take the last turns back."""
        self.take_back(many)

    def copy(self):
        """Tell a machine of its own with the same turns done."""
        return Needer(self.term).as_far_as(self)


class Valuer(Machine):
    """By value: an argument is taken to a head behind its function, ahead of the turn."""

    def new_course(self):
        """Tell the course from the term on."""
        return ValueCourse(self.term)

    def step(self):
        """Go on to behind the next turn and tell True; where none is left, be done and tell False."""
        return self.go_on()

    def run(self, *, most=LIMIT):
        """Go on till the machine is done, by at most so many turns."""
        self.go_to_end(most)

    def done(self):
        """Tell whether the machine is done."""
        return self.result is not None

    def worth(self):
        """Tell the worth."""
        return self.told_worth()

    def back(self, *, many=1):
        """Take the last turns back."""
        self.take_back(many)

    def copy(self):
        """Tell a machine of its own with the same turns done."""
        return Valuer(self.term).as_far_as(self)
