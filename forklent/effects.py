"""Effects: what an instruction does to the leaves of places, and which place it accesses."""

from forklent.kinds import leaves
from forklent.places import crossed, kind_at
from forklent.programs import function_named

# Where the place stands in the instructions that have one.
PLACE_AT = {"copy": 2, "move": 2, "borrow": 3, "is": 2, "store": 1, "swap": 2}
# The modes of the accesses; that of a borrow depends on its own mode.
ACCESS_MODES = {"copy": "read", "move": "move", "is": "read", "store": "store", "swap": "write", "drop": "store"}


def uses(program, graph, point):
    """The tuple of the leaves that the instruction at a point uses."""
    instruction = graph.points[point]
    found = leaves_of_temporaries(program, graph, taken(instruction))
    if instruction[0] in ("copy", "move"):
        found = found + leaves_of(program, graph, place_of(instruction))
    return found + crossed_by(program, graph, instruction)


def clears(program, graph, point):
    """The tuple of the leaves that the instruction at a point clears."""
    instruction = graph.points[point]
    found = leaves_of_temporaries(program, graph, taken(instruction))
    if instruction[0] in ("move", "let", "store", "drop"):
        found = found + leaves_of(program, graph, place_of(instruction))
    return found


def access(program, graph, point):
    """The pair of mode and place that the instruction at a point accesses, or None."""
    instruction = graph.points[point]
    word = instruction[0]
    if word == "borrow":
        mode = "read" if instruction[2] == "shared" else "write"
        return (mode, place_of(instruction))
    if word in ACCESS_MODES:
        return (ACCESS_MODES[word], place_of(instruction))
    return None


def moves(program, graph, point):
    """The tuple of the pairs of leaves from and to which the instruction at a point moves marks."""
    instruction = graph.points[point]
    word = instruction[0]
    if word in ("copy", "move"):
        return pairs_between(program, graph, place_of(instruction), (instruction[1], ()))
    if word in ("let", "store"):
        return pairs_between(program, graph, (instruction[2], ()), place_of(instruction))
    if word == "borrow":
        return tuple([(leaf, (instruction[1], ())) for leaf in crossed_by(program, graph, instruction)])
    if word == "make":
        return pairs_into(program, graph, instruction)
    if word in ("call", "spawn"):
        return pairs_through(program, graph, instruction)
    return ()


def taken(instruction):
    """The tuple of the temporaries that an instruction takes with their leaves."""
    word = instruction[0]
    if word in ("make", "call", "spawn"):
        return instruction[3]
    if word in ("let", "store", "join"):
        return (instruction[2],)
    if word == "leave":
        return (instruction[1],)
    return ()


def place_of(instruction):
    """The place of an instruction; for `let` and `drop`, the whole variable or temporary."""
    word = instruction[0]
    if word in PLACE_AT:
        return instruction[PLACE_AT[word]]
    return (instruction[1], ())


def leaves_of(program, graph, place):
    """The tuple of the leaves of a place."""
    variable, steps = place
    kind = kind_at(place, records=program[0], kinds=graph.kinds)
    return tuple([(variable, steps + path) for path in leaves(kind)])


def is_task(program, graph, leaf):
    """Tell whether a leaf is a task leaf."""
    return kind_at(leaf, records=program[0], kinds=graph.kinds)[0] == "task"


def leaves_of_temporaries(program, graph, names):
    """The tuple of the leaves of several variables or temporaries, in their order."""
    return tuple([leaf for name in names for leaf in leaves_of(program, graph, (name, ()))])


def crossed_by(program, graph, instruction):
    """The tuple of the leaf that the place of an instruction crosses; empty if there is none."""
    if instruction[0] not in PLACE_AT:
        return ()
    leaf = crossed(place_of(instruction), records=program[0], kinds=graph.kinds)
    return () if leaf is None else (leaf,)


def pairs_between(program, graph, source, target):
    """The pairs of the leaves of two places of the same kind."""
    return tuple(zip(leaves_of(program, graph, source), leaves_of(program, graph, target)))


def pairs_into(program, graph, instruction):
    """The pairs of the leaves of what a `make` takes and of the leaves within what it gives."""
    _, temporary, shape, parts = instruction
    # Boxes and records contain plain kinds only, so nothing in them has leaves.
    if shape not in ("some", "tuple"):
        return ()
    found = []
    for at, part in enumerate(parts):
        step = "?" if shape == "some" else at
        found.extend(pairs_between(program, graph, (part, ()), (temporary, (step,))))
    return tuple(found)


def pairs_through(program, graph, instruction):
    """The pairs of the leaves of the arguments that a call or a spawn carries into its answer, and of its leaves."""
    word, temporary, name, parts = instruction
    _, parameters, _, sources, _ = function_named(program, name)
    carried = [part for (parameter, _), part in zip(parameters, parts) if word == "spawn" or parameter in sources]
    given = leaves_of(program, graph, (temporary, ()))
    return tuple([(leaf, end) for leaf in leaves_of_temporaries(program, graph, carried) for end in given])
