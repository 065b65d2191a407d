"""Shapes: which cells of a value are boxes and tasks, and which tree its cells stand for."""

from forklent.kinds import fields_of
from forklent.layout import cells, record_sizes


class Shape:
    """The cells of a kind: how many there are, and the spots of the boxes and tasks among them.

    A spot is a tuple of the word "box" or "task", the number of the cell, the numbers of the cells that tell of the
    payloads around it whether they are there, and the kind of what is in the box or of what the thread returns.
    """

    def __init__(self, size, spots):
        self.size = size
        self.spots = spots


class Shapes:
    """The shapes of the kinds of a program."""

    def __init__(self, program):
        self.records = program[0]
        self.sizes = record_sizes(program[0])
        # The shapes that were made already, by the texts of their kinds.
        self.known = {}

    def shape_of(self, kind):
        """The shape of a kind."""
        text = repr(kind)
        if text not in self.known:
            self.known[text] = Shape(cells(self.sizes, kind), self.spots_in(kind, 0, ()))
        return self.known[text]

    def spots_in(self, kind, at, guards):
        """The list of the spots in a value whose cells begin at a number, inside payloads with these guards."""
        if kind[0] in ("box", "task"):
            return [(kind[0], at, guards, kind[1])]
        if kind[0] == "maybe":
            return self.spots_in(kind[1], at + 1, guards + (at,))
        return [spot for part, begin in self.parts_in(kind, at) for spot in self.spots_in(part, begin, guards)]

    def parts_in(self, kind, at):
        """The list of the kinds of the parts of a tuple or record, each with the number of its first cell."""
        parts = []
        if kind[0] == "tuple":
            parts = kind[1]
        elif kind[0] == "record":
            parts = [part for _, part in fields_of(self.records, kind[1])]
        found = []
        for part in parts:
            found.append((part, at))
            at += cells(self.sizes, part)
        return found

    def tree(self, kind, row, at, inside):
        """The tree of a value without leaves whose cells begin at a number in a row.

        The dict `inside` has the trees of what the boxes in it contain, by their addresses.
        """
        word = kind[0]
        if word == "int":
            return ("int", row[at])
        if word == "bool":
            return ("bool", row[at] != 0)
        if word == "unit":
            return ("unit",)
        if word == "box":
            return ("box", inside[row[at]])
        if word == "maybe":
            return ("none",) if row[at] == 0 else ("some", self.tree(kind[1], row, at + 1, inside))
        trees = tuple([self.tree(part, row, begin, inside) for part, begin in self.parts_in(kind, at)])
        return ("tuple", trees) if word == "tuple" else ("record", kind[1], trees)


def filled(spots, row):
    """The list of those of the spots that have a box or a task in a row of cells."""
    return [spot for spot in spots if row[spot[1]] != 0 and is_guarded(spot, row)]


def is_guarded(spot, row):
    """Tell whether all payloads around a spot are there."""
    return all(row[guard] != 0 for guard in spot[2])
