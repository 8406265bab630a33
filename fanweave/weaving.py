"""Weaving: the web of a term.

What is woven is told as a tuple: its top hook, and a dict of the ties of the names in it: for each part of a row that
is a name (parts.py) the hook from which the tie of that word goes on.
"""

from fanweave.parts import FUN, PUT, depths
from fanweave.webs import (ANSWER, ARGUMENT, BODY, BOUND, BOX, CHIEF, END, FORK, FUN_KNOT, NAME, OPENER, PUT_KNOT,
                           ROOT, Web, hook_of)


def net_levels(parts):
    """Tell the list, for each part, of its level in the net: within how many arguments it stands."""
    waiting = [0]
    told = []
    for part in parts:
        level = waiting.pop()
        told.append(level)
        if part == FUN:
            waiting.append(level)
        elif part == PUT:
            waiting.extend([level + 1, level])
    return told


def woven(parts):
    """Tell the web of the term that is this row of parts."""
    web = Web()
    root = web.new_knot(ROOT, 0)
    levels = net_levels(parts)
    bound = depths(parts)
    # What is woven and not yet within something else. The last part comes first: so a put's function is on top.
    waiting = []
    for place in reversed(range(len(parts))):
        if parts[place] == PUT:
            function = waiting.pop()
            argument = waiting.pop()
            waiting.append(woven_put(web, levels[place], function, argument))
        elif parts[place] == FUN:
            body = waiting.pop()
            waiting.append(woven_function(web, levels[place], bound[place], body))
        else:
            waiting.append(woven_name(web, levels[place], parts[place]))
    top, ties = waiting.pop()
    web.tie(hook_of(root, CHIEF), top)
    for word, tie in ties.items():
        web.tie(hook_of(web.new_knot(NAME, 0, word), CHIEF), tie)
    return web


def woven_name(web, level, part):
    """Weave a name."""
    opener = web.new_knot(OPENER, level)
    return hook_of(opener, 1), {part: hook_of(opener, CHIEF)}


def woven_function(web, level, bound, body):
    """Weave a function of a body in which the name of this number of functions around is its own."""
    top, ties = body
    function = web.new_knot(FUN_KNOT, level)
    if bound not in ties:
        ties[bound] = hook_of(web.new_knot(END, 0), CHIEF)
    web.tie(hook_of(function, BODY), top)
    web.tie(hook_of(function, BOUND), ties.pop(bound))
    return hook_of(function, CHIEF), ties


def woven_put(web, level, function, argument):
    """Weave a put of a function to an argument."""
    top, ties = function
    handed, handed_ties = argument
    knot = web.new_knot(PUT_KNOT, level)
    web.tie(hook_of(knot, CHIEF), top)
    web.tie(hook_of(knot, ARGUMENT), handed)
    for part, tie in handed_ties.items():
        box = web.new_knot(BOX, level)
        web.tie(hook_of(box, 1), tie)
        if part in ties:
            fork = web.new_knot(FORK, level)
            web.tie(hook_of(fork, 1), ties[part])
            web.tie(hook_of(fork, 2), hook_of(box, CHIEF))
            ties[part] = hook_of(fork, CHIEF)
        else:
            ties[part] = hook_of(box, CHIEF)
    return hook_of(knot, ANSWER), ties
