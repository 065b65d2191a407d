"""Programs: their functions, the parts of an expression, and the kind of its value."""

from forklent.places import kind_at

# For each sign the kind that both sides have, and the kind of the result.
SIDE_KINDS = {
    "+": ("int",), "-": ("int",), "*": ("int",), "<": ("int",), "==": ("int",), "and": ("bool",), "or": ("bool",),
}
SIGN_KINDS = {
    "+": ("int",), "-": ("int",), "*": ("int",), "<": ("bool",), "==": ("bool",), "and": ("bool",), "or": ("bool",),
}


def function_named(program, name):
    """The function with this name, or None."""
    for function in program[1]:
        if function[0] == name:
            return function
    return None


def parts_of(expression):
    """The tuple of the expressions that stand directly in an expression, from the left to the right."""
    word = expression[0]
    if word in ("some", "box", "unbox", "not", "join"):
        return (expression[1],)
    if word == "tuple":
        return expression[1]
    if word in ("record", "call", "spawn"):
        return expression[2]
    if word == "swap":
        return (expression[2],)
    if word == "op":
        return (expression[2], expression[3])
    return ()


def place_in(expression):
    """The place that a use, borrow, is or swap speaks of."""
    if expression[0] == "borrow":
        return expression[2]
    return expression[1]


def kind_made(program, kinds, expression, inside):
    """The kind of an expression without problems; `inside` has the kinds of its parts."""
    word = expression[0]
    if word in ("int", "bool", "unit"):
        return (word,)
    if word in ("is", "not"):
        return ("bool",)
    if word == "op":
        return SIGN_KINDS[expression[1]]
    if word == "none":
        return ("maybe", expression[1])
    if word == "some":
        return ("maybe", inside[0])
    if word == "box":
        return ("box", inside[0])
    if word == "tuple":
        return ("tuple", tuple(inside))
    if word in ("unbox", "join"):
        return inside[0][1]
    return kind_fetched(program, kinds, expression)


def kind_fetched(program, kinds, expression):
    """The kind of an expression that takes it from a place or a declaration."""
    word = expression[0]
    if word == "record":
        return ("record", expression[1])
    if word == "call":
        return function_named(program, expression[1])[2]
    if word == "spawn":
        return ("task", function_named(program, expression[1])[2])
    kind = kind_at(place_in(expression), records=program[0], kinds=kinds)
    if word == "borrow":
        return (expression[1], kind)
    return kind
