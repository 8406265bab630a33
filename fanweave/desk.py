"""A desk: keeps terms and machines by words, and is told what to do by lines."""

from fanweave.desklines import read_line
from fanweave.errors import NoBack, NoName, NoNet
from fanweave.machines import Namer, Needer, Placer, Valuer
from fanweave.nettexts import net_text
from fanweave.papers import race
from fanweave.shapes import shape_of
from fanweave.sharer import Sharer
from fanweave.terms import all_put_in
from fanweave.texts import read_term


def do_let(desk, word, text):
    """Keep a term."""
    term = desk.term_of(text)
    desk.put_down("let", desk.terms, word, desk.terms.get(word))
    desk.terms[word] = term
    return str(len(term))


def do_show(desk, word):
    """Tell a term's text."""
    return str(desk.kept(desk.terms, word))


def do_drop(desk, word):
    """Keep a term no more."""
    desk.put_down("drop", desk.terms, word, desk.kept(desk.terms, word))
    del desk.terms[word]
    return "ok"


def do_make(desk, word, kind, text):
    """Keep a new machine."""
    machine = new_machine(kind, desk.term_of(text))
    desk.put_down("make", desk.machines, word, desk.machines.get(word))
    desk.machines[word] = machine
    return "ok"


def do_go(desk, word, many):
    """Let a machine do so many steps, or all that are left; tell how many turns it has done."""
    machine = desk.kept(desk.machines, word)
    desk.put_down("go", desk.machines, word, machine.copy())
    steps = 0
    while steps < many and not machine.done():
        machine.step()
        steps += 1
    return str(machine.turns)


def do_end(desk, word):
    """Let a machine run; tell its worth's text."""
    machine = desk.kept(desk.machines, word)
    ahead = machine.copy()
    machine.run()
    desk.put_down("end", desk.machines, word, ahead)
    return str(machine.worth())


def do_worth(desk, word):
    """Tell the text of a machine's worth."""
    machine = desk.kept(desk.machines, word)
    return str(machine.worth())


def do_turns(desk, word):
    """Tell how many turns a machine has done."""
    machine = desk.kept(desk.machines, word)
    return str(machine.turns)


def do_back(desk, word, many):
    """Let a machine take so many steps back."""
    machine = desk.kept(desk.machines, word)
    ahead = machine.copy()
    machine.back(many=many)
    desk.put_down("back", desk.machines, word, ahead)
    return "ok"


def do_twin(desk, word, other):
    """Keep a copy of a machine."""
    machine = desk.kept(desk.machines, word)
    desk.put_down("twin", desk.machines, other, desk.machines.get(other))
    desk.machines[other] = machine.copy()
    return "ok"


def do_read(desk, word):
    """Tell the text of what a sharer's net reads, or of another machine's worth."""
    machine = desk.kept(desk.machines, word)
    if isinstance(machine, Sharer):
        net = machine.net()
        return str(net.read())
    return str(machine.worth())


def do_shape(desk, text):
    """Tell the text of a term's shape, or that there is none."""
    shape = shape_of(desk.term_of(text))
    return "none" if shape is None else shape


def do_net(desk, word):
    """Tell the text of a sharer's net."""
    machine = desk.kept(desk.machines, word)
    if not isinstance(machine, Sharer):
        raise NoNet("only a sharer has a net")
    return net_text(machine.net())


def do_race(desk, text):
    """Tell how many turns each of the five machines takes for a term."""
    counts = race(desk.term_of(text))
    return " ".join(["-" if turns is None else str(turns) for turns in counts.values()])


def do_undo(desk):
    """Undo the last deed that is not undone; tell its first word."""
    if len(desk.deeds) == 0:
        raise NoBack("there is nothing to undo")
    first, table, word, thing = desk.deeds.pop()
    if thing is None:
        del table[word]
    else:
        table[word] = thing
    return first


ACTIONS = {
    "let": do_let,
    "show": do_show,
    "drop": do_drop,
    "make": do_make,
    "go": do_go,
    "end": do_end,
    "worth": do_worth,
    "turns": do_turns,
    "back": do_back,
    "twin": do_twin,
    "read": do_read,
    "shape": do_shape,
    "net": do_net,
    "race": do_race,
    "undo": do_undo,
}


def new_machine(kind, term):
    """Tell a new machine of a term."""
    if kind == "placer":
        return Placer(term)
    if kind == "namer":
        return Namer(term)
    if kind == "needer":
        return Needer(term)
    if kind == "valuer":
        return Valuer(term)
    return Sharer(term)


class Desk:
    """Terms and machines by words, and what is to be known to undo what was done."""

    def __init__(self):
        self.terms = {}
        self.machines = {}
        # For each deed that is not undone: its first word, the dict in which it changed something, by which word, and
        # what was kept there ahead of it, None where nothing was. A machine that goes on leaves a copy of itself here.
        self.deeds = []

    def tell(self, line):
        """Do what a line tells; tell the answer."""
        first, *things = read_line(line)
        action = ACTIONS[first]
        return action(self, *things)

    def kept(self, table, word):
        """Tell what is kept by a word in one of the dicts."""
        if word not in table:
            raise NoName(word)
        return table[word]

    def put_down(self, first, table, word, thing):
        """Put down a deed, so that it can be undone."""
        self.deeds.append((first, table, word, thing))

    def term_of(self, text):
        """Tell the term of a text, with kept terms in the place of the free names by which they are kept."""
        return all_put_in(read_term(text), self.terms)
