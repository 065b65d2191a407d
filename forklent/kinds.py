"""Kinds: what they contain, whether they are copied, and what a step selects in them."""

from forklent.errors import NoSuchStep

BORROWS = ("shared", "exclusive")
# The words of the kinds whose values are leaves.
LEAF_WORDS = ("shared", "exclusive", "task")
# The words of the kinds in which no other kind is written.
SINGLE_WORDS = ("int", "bool", "unit", "record")


def kinds_inside(kind):
    """The kinds that are written directly in a kind, from the left to the right."""
    if kind[0] in SINGLE_WORDS:
        return ()
    if kind[0] == "tuple":
        return kind[1]
    return (kind[1],)


def is_plain(kind):
    """Tell whether a kind contains no borrow and no task."""
    if kind[0] in LEAF_WORDS:
        return False
    return all(is_plain(part) for part in kinds_inside(kind))


def is_copy(kind):
    """Tell whether a value of the kind is copied when it is used."""
    if kind[0] in ("maybe", "tuple"):
        return all(is_copy(part) for part in kinds_inside(kind))
    return kind[0] in ("int", "bool", "unit", "shared")


def levels(kind):
    """The number of levels of a kind."""
    return 1 + max([levels(part) for part in kinds_inside(kind)], default=0)


def leaves(kind):
    """The tuple of the paths to the borrows and tasks of a kind."""
    if kind[0] in LEAF_WORDS:
        return ((),)
    if kind[0] == "maybe":
        return tuple([("?",) + path for path in leaves(kind[1])])
    if kind[0] == "tuple":
        return tuple([(at,) + path for at, part in enumerate(kind[1]) for path in leaves(part)])
    return ()


def kind_after(records, kind, step):
    """The kind of what a step selects in a value of a kind."""
    if kind[0] == "tuple" and is_item(kind[1], step):
        return kind[1][step]
    if kind[0] == "record":
        for field, inside in fields_of(records, kind[1]):
            if field == step:
                return inside
    if kind[0] == "maybe" and step == "?":
        return kind[1]
    if (kind[0] == "box" or kind[0] in BORROWS) and step == "^":
        return kind[1]
    raise NoSuchStep(f"the step {step!r} does not fit a kind that begins with {kind[0]!r}")


def is_item(items, step):
    """Tell whether a step selects one of the items."""
    # Python counts True and False as integers and takes negative indexes; the document does neither.
    return isinstance(step, int) and not isinstance(step, bool) and 0 <= step < len(items)


def fields_of(records, name):
    """The fields of the record with this name; none if it is not declared."""
    for record, fields in records:
        if record == name:
            return fields
    return ()
