"""Layout: how many cells a value of a kind takes."""

from forklent.kinds import kinds_inside


def size(records, kind):
    """The number of cells that a value of a kind takes."""
    return cells(record_sizes(records), kind)


def cells(sizes, kind):
    """The number of cells that a value of a kind takes, by the sizes of the records."""
    if kind[0] == "maybe":
        return 1 + cells(sizes, kind[1])
    if kind[0] == "tuple":
        return sum([cells(sizes, part) for part in kind[1]])
    if kind[0] == "record":
        return sizes[kind[1]]
    return 1


def record_sizes(records):
    """A dict from the names of the records to their sizes.

    A record that contains itself, or that contains such a record, has no size and is not in it.
    """
    needs = {name: needed_records(fields) for name, fields in records}
    sizes = {}
    # Records may stand before those that they contain. Each round settles one more at least, if any is left to settle.
    for _ in records:
        for name, fields in records:
            if name not in sizes and all(other in sizes for other in needs[name]):
                sizes[name] = sum([cells(sizes, kind) for _, kind in fields])
    return sizes


def needed_records(fields):
    """The names of the records whose sizes the size of the fields depends on."""
    return [name for _, kind in fields for name in records_within(kind)]


def records_within(kind):
    """The names of the records that stand in a kind and take their cells there."""
    if kind[0] == "record":
        return [kind[1]]
    if kind[0] in ("maybe", "tuple"):
        return [name for part in kinds_inside(kind) for name in records_within(part)]
    return []
