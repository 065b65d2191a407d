"""Layout: how many cells a value of a kind takes, and where in a row of cells its parts lie."""

from forklent.errors import NoSuchStep
from forklent.kinds import fields_of, kind_after, kinds_inside


def size(records, kind):
    """The number of cells that a value of a kind takes."""
    return cells(record_sizes(records), kind)


def offset(records, kind, step):
    """How many cells stand before what a step selects in a value of a kind."""
    # This raises NoSuchStep if the step does not fit at all.
    kind_after(records, kind, step)
    if step == "^":
        raise NoSuchStep("what stands behind the step '^' does not lie in the value itself")
    return cells_before(records, record_sizes(records), kind, step)


def frame(program, graph):
    """A dict from the names of a function to their offsets in the block of a call; "" has the size of the block."""
    sizes = record_sizes(program[0])
    offsets = {}
    total = 0
    for name in names_of(graph):
        offsets[name] = total
        total += cells(sizes, graph.kinds[name])
    offsets[""] = max(1, total)
    return offsets


def names_of(graph):
    """The list of the names of a function: the parameters, and then the others as they appear in the points."""
    names = {name: True for name in graph.parameters}
    for instruction in graph.points:
        # A name appears first where it is given a value, and there it stands behind the word of the instruction.
        if len(instruction) > 1 and isinstance(instruction[1], str):
            names[instruction[1]] = True
    return list(names)


def cells_before(records, sizes, kind, step):
    """How many cells stand before what a fitting step selects, by the sizes of the records."""
    if step == "?":
        return 1
    if kind[0] == "tuple":
        return sum([cells(sizes, part) for part in kind[1][:step]])
    before = 0
    for field, part in fields_of(records, kind[1]):
        if field == step:
            break
        before += cells(sizes, part)
    return before


def cells(sizes, kind):
    """The number of cells that a value of a kind takes, by the sizes of the records."""
    if kind[0] == "maybe":
        return 1 + cells(sizes, kind[1])
    if kind[0] == "tuple":
        return sum([cells(sizes, part) for part in kind[1]])
    if kind[0] == "record":
        return sizes[kind[1]]
    return 1


def record_sizes(records):
    """A dict from the names of the records to their sizes.

    A record that contains itself, or that contains such a record, has no size and is not in it.
    """
    needs = {name: needed_records(fields) for name, fields in records}
    sizes = {}
    # Records may stand before those that they contain. Each round settles one more at least, if any is left to settle.
    for _ in records:
        for name, fields in records:
            if name not in sizes and all(other in sizes for other in needs[name]):
                sizes[name] = sum([cells(sizes, kind) for _, kind in fields])
    return sizes


def needed_records(fields):
    """The names of the records whose sizes the size of the fields depends on."""
    return [name for _, kind in fields for name in records_within(kind)]


def records_within(kind):
    """The names of the records that stand in a kind and take their cells there."""
    if kind[0] == "record":
        return [kind[1]]
    if kind[0] in ("maybe", "tuple"):
        return [name for part in kinds_inside(kind) for name in records_within(part)]
    return []
