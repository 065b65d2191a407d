"""Places: when they overlap, their kinds, and the borrow that they cross."""

from forklent.errors import NoSuchVariable
from forklent.kinds import BORROWS, kind_after


def is_prefix(first, second):
    """Tell whether the first place is a prefix of the second one, or equal to it."""
    variable, steps = first
    other, more_steps = second
    return variable == other and steps == more_steps[:len(steps)]


def overlap(first, second):
    """Tell whether one of two places is a prefix of the other."""
    return is_prefix(first, second) or is_prefix(second, first)


def kind_at(place, *, records, kinds):
    """The kind of a place."""
    return kinds_along(place, records, kinds)[-1]


def crossed(place, *, records, kinds):
    """The leaf that a place crosses, or None if it crosses no borrow."""
    variable, steps = place
    # All steps are looked at first: a step behind the borrow that does not fit is an error, too.
    along = kinds_along(place, records, kinds)
    for at, step in enumerate(steps):
        if step == "^" and along[at][0] in BORROWS:
            return (variable, steps[:at])
    return None


def kinds_along(place, records, kinds):
    """The list of the kinds of the variable and of what stands behind each step."""
    variable, steps = place
    if variable not in kinds:
        raise NoSuchVariable(f"there is no variable {variable!r}")
    along = [kinds[variable]]
    for step in steps:
        along.append(kind_after(records, along[-1], step))
    return along
