"""Nets as texts: knots numbered anew by a walk from the root, a row for each."""

from fanweave.errors import NoText
from fanweave.nets import net_of
from fanweave.webs import END, HOOKS, NAME, ROOT, Web, hook_of, knot_at, place_at
from fanweave.wholes import written_number
from fanweave.words import is_word


def net_text(net):
    """Tell the text of a net."""
    web = net.web
    walked = [0]
    numbers = {0: 0}
    rows = []
    while len(rows) < len(walked):
        knot = walked[len(rows)]
        words = [web.kinds[knot], str(web.levels[knot])]
        if web.kinds[knot] == NAME:
            words.append(web.words[knot])
        for hook in web.hooks_of(knot):
            other = knot_at(web.tied[hook])
            if other not in numbers:
                numbers[other] = len(walked)
                walked.append(other)
            words.append(f"{numbers[other]}.{place_at(web.tied[hook])}")
        rows.append(" ".join(words))
    return "; ".join(rows)


class Row:
    """What a row of a net's text tells of a knot; ends are, for each hook, the tuple of a knot's number, a hook's."""

    def __init__(self, kind, level, word, ends):
        self.kind = kind
        self.level = level
        self.word = word
        self.ends = ends


def read_net(text):
    """Tell the net of which this is the text."""
    if not isinstance(text, str):
        raise NoText(0)
    rows = []
    for written in text.split("; "):
        row = read_row(written)
        if row is None:
            raise NoText(len(rows))
        rows.append(row)
    if not are_whole(rows):
        raise NoText(len(rows))
    return net_of(web_of(rows))


def read_row(text):
    """Tell what a row tells, None where it is none."""
    words = text.split(" ")
    kind = words.pop(0)
    if kind not in HOOKS or len(words) == 0:
        return None
    level = written_number(words.pop(0))
    if level is None or level > 0 and kind in (ROOT, NAME, END):
        return None
    word = None
    if kind == NAME:
        if len(words) == 0 or not is_word(words[0]):
            return None
        word = words.pop(0)
    ends = [read_end(each) for each in words]
    if len(ends) != HOOKS[kind] or None in ends:
        return None
    return Row(kind, level, word, ends)


def read_end(text):
    """Tell the tuple of two numbers that are written with a point between, None where there are no such."""
    knot, _, place = text.partition(".")
    numbers = (written_number(knot), written_number(place))
    return None if None in numbers else numbers


def are_whole(rows):
    """Tell whether rows are those of one net, numbered by the walk from its root."""
    # How many knots were come to.
    seen = 1
    for number, row in enumerate(rows):
        if number >= seen or (row.kind == ROOT) != (number == 0):
            return False
        for place, end in enumerate(row.ends):
            if end[0] > seen or not is_answered(rows, (number, place), end):
                return False
            seen = max(seen, end[0] + 1)
    return True


def is_answered(rows, hook, end):
    """Tell whether the hook to which a hook is tied is another one, and tied to it."""
    knot, place = end
    if hook == end or knot >= len(rows) or place >= len(rows[knot].ends):
        return False
    return rows[knot].ends[place] == hook


def web_of(rows):
    """Tell the web that has just the knots of these rows."""
    web = Web()
    for row in rows:
        web.new_knot(row.kind, row.level, row.word)
    for number, row in enumerate(rows):
        for place, (knot, other) in enumerate(row.ends):
            web.tie(hook_of(number, place), hook_of(knot, other))
    return web
