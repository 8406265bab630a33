"""Whole numbers, and how they are written by figures."""

FIGURES = "0123456789"
MOST_FIGURES = 4


def is_whole(thing):
    """Tell of anything whether it is a whole number from 0 on."""
    return isinstance(thing, int) and not isinstance(thing, bool) and thing >= 0


def written_number(text):
    """Tell the number that a text of at most four figures writes, None where it writes none."""
    if not 1 <= len(text) <= MOST_FIGURES or not all([sign in FIGURES for sign in text]):
        return None
    if text[0] == "0" and text != "0":
        return None
    return int(text)
