"""Papers of runs, their judge, and races of the five machines."""

from fanweave.errors import TooLong
from fanweave.labels import LabelledRun, rows_to_worth
from fanweave.machines import Namer, Needer, Placer, Valuer
from fanweave.parts import addresses_at
from fanweave.sharer import Sharer
from fanweave.terms import LIMIT, Term


def paper_of(term, *, most=LIMIT):
    """Tell the paper of a term: the tuple of its rounds and its worth."""
    run = LabelledRun(term)
    rows = rows_to_worth(run, most)
    return rows, run.term


def is_paper(term, paper):
    """Tell whether this is a paper of the term."""
    if not has_form_of_paper(paper):
        return False
    rows, worth = paper
    run = LabelledRun(term)
    for row in rows:
        if run.leftmost() is None:
            return False
        places = run.family_places(run.leftmost())
        if sorted(row) != addresses_at(run.term.parts, places):
            return False
        run.turn(places)
    return run.leftmost() is None and run.term == worth


def has_form_of_paper(thing):
    """Tell of anything whether it is a tuple of a list of lists of texts and a term."""
    if not isinstance(thing, tuple) or len(thing) != 2:
        return False
    rows, worth = thing
    if not isinstance(rows, list) or not isinstance(worth, Term):
        return False
    return all([is_list_of_texts(row) for row in rows])


def is_list_of_texts(thing):
    """Tell of anything whether it is a list of texts."""
    return isinstance(thing, list) and all([isinstance(each, str) for each in thing])


def race(term, *, most=LIMIT, moves=20 * LIMIT):
    """Tell the dict of how many turns each of the five machines takes, None where it takes too many."""
    sharer = Sharer(term)
    return {
        "placer": turns_to_end(Placer(term), most),
        "namer": turns_to_end(Namer(term), most),
        "needer": turns_to_end(Needer(term), most),
        "valuer": turns_to_end(Valuer(term), most),
        "sharer": sharer_turns_to_end(sharer, most, moves),
    }


def turns_to_end(machine, most):
    """Tell how many turns a new machine takes, None where they are more than most."""
    try:
        machine.run(most=most)
    except TooLong:
        return None
    return machine.turns


def sharer_turns_to_end(sharer, most, moves):
    """Tell how many turns a new sharer takes, None where they are more than most, or its moves more than so many."""
    try:
        sharer.run(most=most, moves=moves)
    except TooLong:
        return None
    return sharer.turns
