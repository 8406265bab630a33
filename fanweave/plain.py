"""Plain turns: redexes and what comes of turning them."""

from fanweave.errors import NoRedex, TooLong
from fanweave.parts import addresses_at
from fanweave.terms import LIMIT, Term, place_of
from fanweave.turning import is_redex, leftmost_place, redex_places, turned_row


def redexes(term):
    """Tell the sorted list of the addresses of all redexes; the first one is the leftmost."""
    return addresses_at(term.parts, redex_places(term.parts))


def turned(term, address):
    """Tell the term in which the redex at the address is turned."""
    return all_turned(term, [address])


def all_turned(term, addresses):
    """Tell the term in which the redexes at these addresses are turned at once."""
    places = [redex_place(term, address) for address in addresses]
    return Term(turned_row(term.parts, places))


def normal(term, *, most=LIMIT):
    """Tell the tuple of the term's worth and of how many turns at the leftmost redex lead there."""
    parts = term.parts
    turns = 0
    place = leftmost_place(parts)
    while place is not None:
        if turns >= most:
            raise TooLong(most)
        parts = turned_row(parts, [place])
        turns += 1
        place = leftmost_place(parts)
    return Term(parts), turns


def redex_place(term, address):
    """Tell the place in the term's row at which the redex at an address begins."""
    place = place_of(term, address)
    if not is_redex(term.parts, place):
        raise NoRedex("no redex stands there")
    return place
