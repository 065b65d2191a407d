"""Short words for the parts of programs, and what the tests of several modules share."""

import copy

from forklent.errors import ForkError, KindProblem
from forklent.kinding import check_kinds

INT = ("int",)
BOOL = ("bool",)
UNIT = ("unit",)
TRUE = ("bool", True)
BOX = ("box", INT)
TASK = ("task", INT)
SHARED = ("shared", INT)
EXCLUSIVE = ("exclusive", INT)


def items(*kinds):
    return ("tuple", kinds)


def maybe(kind, times=1):
    for _ in range(times):
        kind = ("maybe", kind)
    return kind


def box(kind, times=1):
    for _ in range(times):
        kind = ("box", kind)
    return kind


def wide(cells):
    """A plain kind of this size, from 2 to 216, with at most 4 levels."""
    kinds = [INT] * cells
    while len(kinds) > 6:
        rows = [kinds[at:at + 6] for at in range(0, len(kinds), 6)]
        kinds = [items(*row) if len(row) > 1 else row[0] for row in rows]
    return items(*kinds)


def record(name, *kinds):
    """A record whose fields are called a, b, .. and have these kinds."""
    return (name, tuple(zip("abcdefghijklmnop", kinds)))


def of(name):
    return ("record", name)


def num(number):
    return ("int", number)


def use(variable, *steps):
    return ("use", (variable, steps))


def lend(variable, *steps):
    return ("borrow", "shared", (variable, steps))


def seize(variable, *steps):
    return ("borrow", "exclusive", (variable, steps))


def let(name, expression):
    return ("let", name, expression)


def do(expression):
    return ("do", expression)


def store(place, expression):
    return ("store", place, expression)


def show(expression):
    return ("print", expression)


def give(expression):
    return ("return", expression)


def call(name, *arguments):
    return ("call", name, arguments)


def spawn(name, *arguments):
    return ("spawn", name, arguments)


def join(expression):
    return ("join", expression)


def op(sign, left, right):
    return ("op", sign, left, right)


def at(variable, *steps):
    """A place."""
    return (variable, steps)


def main(*block, parameters=(), result=UNIT):
    return ("main", parameters, result, (), block)


def problem(program):
    """The pair (where, reason) of the problem that check_kinds raises, or None."""
    before = copy.deepcopy(program)
    found = None
    try:
        answer = check_kinds(program)
    except ForkError as error:
        assert type(error) is KindProblem, error
        found = (error.where, error.reason)
    else:
        assert answer is None, answer
    assert program == before
    return found


# A program with a variable of each of many kinds, for the tests of statements and expressions.
RECORDS = (
    record("Pair", INT, BOX),
    ("Chain", (("pair", of("Pair")), ("next", maybe(box(of("Chain")))))),
    record("One", BOOL),
    record("Six", INT, BOOL, UNIT, BOX, of("Pair"), maybe(INT)),
    record("Half", wide(30)),
)
VARIABLES = {
    "n": INT, "b": BOOL, "u": UNIT, "x": BOX, "p": of("Pair"), "m": maybe(INT), "mx": maybe(BOX),
    "s": SHARED, "e": EXCLUSIVE, "t": TASK, "sx": ("shared", BOX), "ex": ("exclusive", BOX),
    "sp": ("shared", of("Pair")), "ep": ("exclusive", of("Pair")), "sc": ("shared", of("Chain")),
    "ec": ("exclusive", of("Chain")), "c": of("Chain"), "xx": box(INT, 2), "i": items(INT, BOX, SHARED),
    "ms": maybe(SHARED), "me": maybe(EXCLUSIVE), "mt": maybe(TASK), "mi": maybe(items(INT, EXCLUSIVE)),
    "sm": ("shared", maybe(INT)), "tp": ("task", of("Pair")), "deep": maybe(INT, 5), "five": maybe(INT, 4),
    "large": wide(60), "h": of("Half"), "si": ("shared", items(INT, BOX)), "ei": ("exclusive", items(INT, maybe(INT))),
}
FUNCTIONS = (
    ("one", (("n", INT),), INT, (), ()),
    ("two", (("n", INT), ("b", BOOL)), UNIT, (), ()),
    ("pick", (("s", SHARED), ("t", SHARED)), SHARED, ("s",), ()),
    ("keep", (("t", TASK),), TASK, ("t",), ()),
    ("take", (("e", EXCLUSIVE), ("x", BOX)), BOX, (), ()),
    ("late", (("n", INT),), maybe(SHARED), (), ()),
    ("deep", (), maybe(INT, 5), (), ()),
    ("five", (), maybe(INT, 4), (), ()),
)


def program_of(block, result=UNIT, parameters=()):
    """A program whose function `work` has all of the variables, and then the block."""
    givers = tuple((f"get_{name}", (), kind, (), ()) for name, kind in VARIABLES.items())
    lets = tuple(let(name, ("call", f"get_{name}", ())) for name in VARIABLES)
    work = ("work", parameters, result, (), lets + tuple(block))
    return (RECORDS, FUNCTIONS + givers + (work, main()))


def reason_of(*block, result=UNIT, parameters=()):
    """The reason why the block is refused in the program with all of the variables, or None."""
    found = problem(program_of(block, result, parameters))
    assert found is None or found[0] == "work", found
    return None if found is None else found[1]
