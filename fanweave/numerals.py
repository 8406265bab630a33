"""Numbers as terms: [a] [b] a (a (.. b)) for the number of its puts."""

from fanweave.errors import NoNumber
from fanweave.parts import FUN, PUT
from fanweave.terms import Term, put
from fanweave.texts import read_term
from fanweave.wholes import is_whole

LARGEST = 40


def numeral_parts(n):
    """Tell the row of parts of the term of a number."""
    puts = [PUT, 0] * n
    return (FUN, FUN, *puts, 1)


def numeral(n):
    """Tell the term of a number."""
    if not is_whole(n) or n > LARGEST:
        raise NoNumber("a number is a whole one from 0 to 40")
    return Term(numeral_parts(n))


def number_of(term):
    """Tell the number of which this is the term, None where there is none."""
    n = (len(term) - 3) // 2
    return n if term.parts == numeral_parts(n) else None


def put_to_both(text, one, other):
    """Tell the function that is written so, put to two terms."""
    return put(put(read_term(text), one), other)


def plus(one, other):
    """Tell the term that comes to the sum of two numbers' terms."""
    return put_to_both("[m] [n] [f] [x] m f (n f x)", one, other)


def times(one, other):
    """Tell the term that comes to the product of two numbers' terms."""
    return put_to_both("[m] [n] [f] m (n f)", one, other)


def power(one, other):
    """Tell the term that comes to the first number's term, taken as many times with itself as the second one tells."""
    return put_to_both("[m] [n] n m", one, other)
