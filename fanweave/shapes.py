"""Shapes: what a term's parts may be put to and come to, told by letters and arrows."""

from fanweave.parts import FUN, PUT, addresses_at, depths, ends
from fanweave.shapetexts import ShapeReader
from fanweave.shaping import shapes_of_parts


def shaping(term):
    """Tell the widest shaping, a dict from all addresses, in order, to the texts of their shapes; None without one."""
    shapes = shapes_of_parts(term.parts)
    if shapes.is_endless():
        return None
    places = list(range(len(term)))
    return dict(zip(addresses_at(term.parts, places), shapes.texts_of(places)))


def shape_of(term):
    """Tell the text of the widest shaping's shape of the term itself, None without one."""
    shapes = shapes_of_parts(term.parts)
    if shapes.is_endless():
        return None
    return shapes.texts_of([0])[0]


def is_shaping(term, shapes):
    """Tell whether a dict from texts to texts is a shaping of the term."""
    if not isinstance(shapes, dict) or len(shapes) != len(term):
        return False
    reader = ShapeReader()
    told = []
    for address in addresses_at(term.parts, list(range(len(term)))):
        text = shapes.get(address)
        shape = reader.read(text) if isinstance(text, str) else None
        if shape is None:
            return False
        told.append(shape)
    return do_fit(term.parts, told, reader)


def do_fit(parts, shapes, reader):
    """Tell whether the shapes of a row's parts, as a reader tells them, fit one another as those of a shaping do."""
    behind = ends(parts)
    # For free words, and for the functions around a part, by their levels: the shape of the names.
    names = {}
    for place, depth in enumerate(depths(parts)):
        part = parts[place]
        if part == FUN:
            arrow = reader.arrows[shapes[place]]
            if arrow is None or arrow[1] != shapes[place + 1]:
                return False
            names[depth] = arrow[0]
        elif part == PUT:
            if reader.arrows[shapes[place + 1]] != (shapes[behind[place + 1]], shapes[place]):
                return False
        elif names.setdefault(part, shapes[place]) != shapes[place]:
            return False
    return True
