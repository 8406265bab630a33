"""Nets a second time, for comparison: knots that hold one another, rewritten over joints, read by recursion.

A tie is a tuple (knot, hook's number); a level of a place is (), (mark, level) or ("pair", level, level).
"""

HOOKS = {"root": 1, "name": 1, "end": 1, "put": 3, "fun": 3, "fork": 3, "opener": 2, "box": 2, "joint": 2}


class Knot:
    """A knot, and for each of its hooks the tie: the knot and hook at its other end."""

    def __init__(self, kind, level, word=None):
        self.kind = kind
        self.level = level
        self.word = word
        self.ties = [None] * HOOKS[kind]


def tie(one, other):
    """Tie two hooks, each a tuple (knot, number)."""
    one[0].ties[one[1]] = other
    other[0].ties[other[1]] = one


def net_of(tree):
    """The root of the net of a tree of trees.py."""
    root = Knot("root", 0)
    top, words = woven(tree, 0)
    tie((root, 0), top)
    for word, end in words.items():
        tie(end, (Knot("name", 0, word), 0))
    return root


def woven(tree, level):
    """The top of a tree's net at a level, and the dict of the ties of its free words."""
    if tree[0] == "name":
        opener = Knot("opener", level)
        return (opener, 1), {tree[1]: (opener, 0)}
    if tree[0] == "fun":
        knot = Knot("fun", level)
        top, words = woven(tree[2], level)
        tie((knot, 1), top)
        tie((knot, 2), words.pop(tree[1], None) or (Knot("end", 0), 0))
        return (knot, 0), words
    knot = Knot("put", level)
    top, words = woven(tree[1], level)
    argument, others = woven(tree[2], level + 1)
    tie((knot, 0), top)
    tie((knot, 2), argument)
    for word, end in others.items():
        box = Knot("box", level)
        tie((box, 1), end)
        end = (box, 0)
        if word in words:
            fork = Knot("fork", level)
            tie((fork, 1), words[word])
            tie((fork, 2), end)
            end = (fork, 0)
        words[word] = end
    return (knot, 1), words


def walk(root):
    """The list of the knots that can be come to, in the order of net texts."""
    found = [root]
    for knot in found:
        for other, _ in knot.ties:
            if other not in found:
                found.append(other)
    return found


def text_of(root):
    """The text of a net."""
    found = walk(root)
    number = {id(knot): at for at, knot in enumerate(found)}
    rows = []
    for knot in found:
        word = [] if knot.word is None else [knot.word]
        ends = [f"{number[id(other)]}.{hook}" for other, hook in knot.ties]
        rows.append(" ".join([knot.kind, str(knot.level)] + word + ends))
    return "; ".join(rows)


def deed_of(one, other):
    """What the meeting of two knots is, None where chiefs of such two are not tied in nets of terms."""
    kinds = {one.kind, other.kind}
    if kinds & {"root", "name", "end"}:
        return None
    if one.level == other.level:
        if kinds == {"put", "fun"}:
            return "turn"
        return "move" if len(kinds) == 1 and kinds <= {"fork", "opener", "box"} else None
    lesser = min(one, other, key=lambda knot: knot.level)
    return "move" if lesser.kind in ("fork", "opener", "box") else None


def meetings(root):
    """The list of pairs of places in walk's list at which knots meet."""
    found = walk(root)
    told = []
    for at, knot in enumerate(found):
        other, hook = knot.ties[0]
        if hook == 0 and deed_of(knot, other) is not None and at < found.index(other):
            told.append((at, found.index(other)))
    return told


def fire(one, other):
    """Do the meeting of two knots. Joints stand where hooks go, till all is tied."""
    deed = deed_of(one, other)
    joints = {}
    for knot in (one, other):
        for hook in range(1, len(knot.ties)):
            joints[id(knot), hook] = Knot("joint", 0)
    for knot in (one, other):
        for hook in range(1, len(knot.ties)):
            there, number = knot.ties[hook]
            inner = joints.get((id(there), number))
            joint = joints[id(knot), hook]
            tie((joint, 0), (there, number) if inner is None else (inner, 0))
    if one.level == other.level:
        for hook in range(1, len(one.ties)):
            tie((joints[id(one), hook], 1), (joints[id(other), hook], 1))
    elif one.level < other.level:
        through(one, other, joints)
    else:
        through(other, one, joints)
    for joint in joints.values():
        if joint.ties[0][0] is not joint:
            tie(joint.ties[0], joint.ties[1])
    return deed


def through(lesser, greater, joints):
    """Let the greater knot go through the lesser one."""
    level = greater.level + {"fork": 0, "opener": -1, "box": 1}[lesser.kind]
    copies = [Knot(greater.kind, level) for _ in lesser.ties[1:]]
    guards = [Knot(lesser.kind, lesser.level) for _ in greater.ties[1:]]
    for number, copy in enumerate(copies):
        tie((copy, 0), (joints[id(lesser), number + 1], 1))
        for place, guard in enumerate(guards):
            tie((guard, number + 1), (copy, place + 1))
    for place, guard in enumerate(guards):
        tie((guard, 0), (joints[id(greater), place + 1], 1))


def gone_on(end, place):
    """Where a walk comes to that begins at this end of a tie: the knot, the hook, and the place there."""
    place = list(place)
    knot, hook = end
    while knot.kind in ("fork", "opener", "box"):
        level = knot.level
        while len(place) <= level + 1:
            place.append(())
        out = 0
        if knot.kind == "fork" and hook > 0:
            place[level] = (hook, place[level])
        elif knot.kind == "fork":
            out, place[level] = place[level]
        elif knot.kind == "opener" and hook == 1:
            place.insert(level, ())
        elif knot.kind == "opener":
            out = 1
            assert place.pop(level) == ()
        elif hook == 1:
            place[level:level + 2] = [("pair", place[level], place[level + 1])]
        else:
            out = 1
            assert place[level][0] == "pair"
            place[level:level + 1] = place[level][1:]
        knot, hook = knot.ties[out]
    return knot, hook, place


def read(end, place=(), around=(), address="", seen=None):
    """The tree read from an end; of puts the dict from their places in memory to their addresses is filled."""
    knot, hook, place = gone_on(end, place)
    first = (place + [()] * knot.level)[:knot.level]
    if knot.kind == "name":
        return ("name", knot.word)
    if knot.kind == "put":
        assert hook == 1
        if seen is not None:
            seen.setdefault(id(knot), []).append(address)
        return ("put", read(knot.ties[0], place, around, address + "f", seen),
                read(knot.ties[2], first, around, address + "g", seen))
    assert knot.kind == "fun"
    if hook == 2:
        return ("name", [word for key, *start, word in around if (key, start) == (id(knot), first)][-1])
    assert hook == 0
    word = "bound" + "abcdefghij"[len(around) % 10] * (len(around) // 10 + 1)
    return ("fun", word, read(knot.ties[1], place, around + ((id(knot), *first, word),), address + "b", seen))


def due(root):
    """The two knots of the sharer's next meeting, None where none is due."""
    waiting = [(root.ties[0], [])]
    while waiting:
        end, place = waiting.pop()
        knot, hook, place = gone_on(end, place)
        if knot.kind == "fun" and hook == 0:
            waiting.append((knot.ties[1], place))
        if knot.kind == "put":
            there, its, _ = gone_on(knot.ties[0], place)
            if there.kind == "fun" and its == 0:
                while knot.ties[0][1] != 0:
                    knot = knot.ties[0][0]
                return knot, knot.ties[0][0]
            waiting.append((knot.ties[2], place[:knot.level]))
            waiting.append((knot.ties[0], place))
    return None
