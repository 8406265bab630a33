"""Turns and labels a second time, for comparison: nested tuples with labels, turned one redex behind the other.

A tree is ("name", word, label), ("fun", word, body, label) or ("put", function, argument, label); labels are tuples
of letters, a letter is a number or a tuple ("over" or "under", degree).
"""

from itertools import count

FRESH = count()


def labelled(tree):
    """A tree of trees.py with a letter of its own for each part."""
    letters = count()

    def with_labels(part):
        label = (next(letters),)
        if part[0] == "name":
            return ("name", part[1], label)
        if part[0] == "fun":
            return ("fun", part[1], with_labels(part[2]), label)
        return ("put", with_labels(part[1]), with_labels(part[2]), label)

    return with_labels(tree)


def plain(tree):
    """The tree without its labels, as trees.py has it."""
    if tree[0] == "name":
        return tree[:2]
    if tree[0] == "fun":
        return ("fun", tree[1], plain(tree[2]))
    return ("put", plain(tree[1]), plain(tree[2]))


def redexes_of(tree, address=""):
    """The list of tuples (address, degree) of all redexes, sorted."""
    if tree[0] == "name":
        return []
    if tree[0] == "fun":
        return redexes_of(tree[2], address + "b")
    here = [(address, tree[1][-1])] if tree[1][0] == "fun" else []
    return here + redexes_of(tree[1], address + "f") + redexes_of(tree[2], address + "g")


def behind(letters, tree):
    """The tree with letters ahead of its own label."""
    return tree[:-1] + (letters + tree[-1],)


def with_put_in(tree, word, argument, letter):
    """The tree with the argument in the place of each name that is the word; words of functions are made anew."""
    if tree[0] == "name":
        return behind(tree[-1] + (letter,), argument) if tree[1] == word else tree
    if tree[0] == "put":
        return ("put", with_put_in(tree[1], word, argument, letter), with_put_in(tree[2], word, argument, letter),
                tree[-1])
    if tree[1] == word:
        return tree
    fresh = f"fresh{next(FRESH)}"
    body = with_word(tree[2], tree[1], fresh)
    return ("fun", fresh, with_put_in(body, word, argument, letter), tree[-1])


def with_word(tree, old, new):
    """The tree with another word for its free names of one word."""
    if tree[0] == "name":
        return ("name", new, tree[-1]) if tree[1] == old else tree
    if tree[0] == "put":
        return ("put", with_word(tree[1], old, new), with_word(tree[2], old, new), tree[-1])
    return tree if tree[1] == old else ("fun", tree[1], with_word(tree[2], old, new), tree[-1])


def turned_at(tree, address):
    """The tree in which the redex at the address is turned."""
    if address[:1] == "b":
        return ("fun", tree[1], turned_at(tree[2], address[1:]), tree[-1])
    if address[:1] == "f":
        return ("put", turned_at(tree[1], address[1:]), tree[2], tree[-1])
    if address[:1] == "g":
        return ("put", tree[1], turned_at(tree[2], address[1:]), tree[-1])
    _, function, argument, label = tree
    degree = function[-1]
    body = with_put_in(function[2], function[1], argument, ("under", degree))
    return behind(label + (("over", degree),), body)


def turned_of(tree, degrees, choose):
    """The tree behind turns at redexes of these degrees, as chosen one by one, till there are none."""
    while True:
        addresses = [address for address, degree in redexes_of(tree) if degree in degrees]
        if not addresses:
            return tree
        tree = turned_at(tree, choose(addresses))


def leftmost_run(tree, most):
    """The list of the trees of the leftmost run, the first and the last one, too; None where it is too long."""
    told = [tree]
    while redexes_of(told[-1]):
        if len(told) > most:
            return None
        told.append(turned_at(told[-1], redexes_of(told[-1])[0][0]))
    return told


def numbered(degrees):
    """The degrees as numbers, from 0 on as they first come."""
    first = list(dict.fromkeys(degrees))
    return [first.index(degree) for degree in degrees]


def families_of(tree, most):
    """What families tells of the tree, None where the run is too long."""
    run = leftmost_run(tree, most)
    if run is None:
        return None
    turns = [redexes_of(each)[0] for each in run[:-1]]
    return list(zip([address for address, _ in turns], numbered([degree for _, degree in turns])))


def rounds_of(tree, most, choose):
    """What rounds tells of the tree, and its worth; None where there are too many."""
    told = []
    while redexes_of(tree):
        if len(told) == most:
            return None
        wanted = redexes_of(tree)[0][1]
        told.append([address for address, degree in redexes_of(tree) if degree == wanted])
        tree = turned_of(tree, [wanted], choose)
    return told, tree
