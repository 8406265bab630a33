"""Words: texts of one to eight small letters a to z."""

LETTERS = "abcdefghijklmnopqrstuvwxyz"
LONGEST = 8


def is_letter(sign):
    """Tell whether a text of at most one sign is a small letter."""
    return "a" <= sign <= "z"


def is_word(thing):
    """Tell of anything whether it is a word."""
    if not isinstance(thing, str) or not 1 <= len(thing) <= LONGEST:
        return False
    return all([is_letter(sign) for sign in thing])


def nth_word(number):
    """Tell the word that stands at number in a, b, .., z, aa, ab, .."""
    signs = []
    left = number + 1
    while left > 0:
        left, place = divmod(left - 1, len(LETTERS))
        signs.append(LETTERS[place])
    return "".join(reversed(signs))


def spare_words(taken, many):
    """Tell the list of the first words of a, b, .., z, aa, ab, .. that are not taken, so many."""
    held = set(taken)
    spare = []
    number = 0
    while len(spare) < many:
        word = nth_word(number)
        if word not in held:
            spare.append(word)
        number += 1
    return spare
