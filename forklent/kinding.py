"""The check of kinds: of records, of signatures, and of the statements of each function."""

from forklent.errors import KindProblem, NoSuchStep
from forklent.kinds import LEAF_WORDS, fields_of, is_copy, is_plain, kinds_inside, leaves
from forklent.layout import cells, record_sizes
from forklent.places import crossed, kind_at
from forklent.programs import SIDE_KINDS, function_named, kind_made, parts_of, place_in

MOST_FIELDS = 6
MOST_ITEMS = 6
MOST_PARAMETERS = 6
MOST_LEVELS = 6
MOST_CELLS = 60
MOST_STEPS = 12
# The words of the expressions whose own kind may be no kind of the language.
BUILDING_WORDS = ("none", "some", "box", "tuple", "borrow", "spawn")


def check_kinds(program):
    """Raise KindProblem for the first problem with kinds that the program has."""
    records, functions = program
    sizes = check_records(records)
    check_signatures(functions, sizes)
    check_main(function_named(program, "main"))
    for function in functions:
        check = Check(program, sizes, function)
        check.check_block(function[4])


def check_records(records):
    """Check all records without their sizes, and then the sizes, which are returned."""
    names = [name for name, _ in records]
    for at, (name, fields) in enumerate(records):
        if name in names[:at] or not are_fields(names, fields):
            raise KindProblem(name, "record")
    settled = record_sizes(records)
    # A record that contains itself has no size, and counts as one that is too large.
    sizes = {name: settled.get(name, MOST_CELLS + 1) for name in names}
    for name, fields in records:
        if sizes[name] > MOST_CELLS or not all(is_small(sizes, kind) for _, kind in fields):
            raise KindProblem(name, "record")
    return sizes


def are_fields(names, fields):
    """Tell whether a record can have these fields, whatever their sizes are."""
    if not 1 <= len(fields) <= MOST_FIELDS or not all_differ([field for field, _ in fields]):
        return False
    return all(is_formed(names, kind, MOST_LEVELS, False) for _, kind in fields)


def all_differ(names):
    """Tell whether no name stands twice in the list."""
    return len(set(names)) == len(names)


def is_formed(names, kind, most_levels, leaves_allowed):
    """Tell whether this is a kind of the named records, without a look at sizes."""
    # The levels go down with the kind, so that a kind of far too many levels is not gone through.
    if most_levels == 0 or (kind[0] in LEAF_WORDS and not leaves_allowed):
        return False
    if kind[0] == "record":
        return kind[1] in names
    if kind[0] == "tuple" and not 2 <= len(kind[1]) <= MOST_ITEMS:
        return False
    allowed_inside = leaves_allowed and kind[0] in ("maybe", "tuple")
    return all(is_formed(names, part, most_levels - 1, allowed_inside) for part in kinds_inside(kind))


def is_small(sizes, kind):
    """Tell whether a kind, and every kind inside it, has few enough cells."""
    return cells(sizes, kind) <= MOST_CELLS and all(is_small(sizes, part) for part in kinds_inside(kind))


def is_kind(sizes, kind):
    """Tell whether this is a kind of the language."""
    return is_formed(sizes, kind, MOST_LEVELS, True) and is_small(sizes, kind)


def check_signatures(functions, sizes):
    """Check the names, parameters, results and sources of all functions."""
    names = [function[0] for function in functions]
    for at, function in enumerate(functions):
        if function[0] in names[:at] or not is_signature(function, sizes):
            raise KindProblem(function[0], "signature")


def is_signature(function, sizes):
    """Tell whether a function can have its parameters, result and sources."""
    _, parameters, result, sources, _ = function
    if len(parameters) > MOST_PARAMETERS or not all_differ([name for name, _ in parameters]):
        return False
    if not all(is_kind(sizes, kind) for _, kind in parameters) or not is_kind(sizes, result):
        return False
    with_leaves = [name for name, kind in parameters if leaves(kind) != ()]
    return all_differ(sources) and all(name in with_leaves for name in sources)


def check_main(function):
    """Check that there is a function main that a run can begin with."""
    if function is None or not is_start(function):
        raise KindProblem("main", "main")


def is_start(function):
    """Tell whether a run can begin with the function."""
    return all(kind in (("int",), ("bool",)) for _, kind in function[1]) and is_plain(function[2])


class Check:
    """The check of the statements of one function."""

    def __init__(self, program, sizes, function):
        self.program = program
        self.sizes = sizes
        self.name = function[0]
        self.result = function[2]
        # The kinds of what is in scope. A name stays declared behind its scope, too.
        self.kinds = {name: kind for name, kind in function[1]}
        self.declared = {name: True for name in self.kinds}

    def require(self, holds, reason):
        """Raise a problem of the function, unless something holds."""
        if not holds:
            raise KindProblem(self.name, reason)

    def check_block(self, block):
        """Check a block; the variables that it declares are in scope up to its end."""
        outside = self.kinds
        self.kinds = dict(outside)
        for statement in block:
            self.check_statement(statement)
        self.kinds = outside

    def check_statement(self, statement):
        """Check one statement."""
        word = statement[0]
        if word == "let":
            _, name, expression = statement
            self.declare(name, self.checked_kind(expression))
        elif word == "store":
            _, place, expression = statement
            kind = self.checked_kind(expression)
            self.require(kind == self.changed_kind(place), "kind")
        else:
            kind = self.checked_kind(statement[1])
            self.require(word == "do" or kind == self.wanted_kind(word), "kind")
            # Only `if` and `while` have more than an expression: their blocks.
            for block in statement[2:]:
                self.check_block(block)

    def declare(self, name, kind):
        """Take a variable into scope."""
        self.require(name not in self.declared, "declared")
        self.declared[name] = True
        self.kinds[name] = kind

    def wanted_kind(self, word):
        """The kind that the expression of a print, return, if or while must have."""
        if word == "print":
            return ("int",)
        if word == "return":
            return self.result
        return ("bool",)

    def checked_kind(self, expression):
        """The kind of an expression, which is checked after its parts."""
        inside = [self.checked_kind(part) for part in parts_of(expression)]
        word = expression[0]
        if word in ("use", "borrow", "is", "swap"):
            self.check_place(expression, inside)
        elif word == "record":
            self.check_record(expression, inside)
        elif word in ("call", "spawn"):
            self.check_call(expression, inside)
        else:
            self.require(are_operands(expression, inside), "kind")
        kind = kind_made(self.program, self.kinds, expression, inside)
        self.require(word not in BUILDING_WORDS or is_kind(self.sizes, kind), "kind")
        return kind

    def check_place(self, expression, inside):
        """Check an expression that speaks of a place."""
        word = expression[0]
        place = place_in(expression)
        changes = word == "swap" or expression[1] == "exclusive"
        kind = self.changed_kind(place) if changes else self.known_kind(place)
        if word in ("swap", "borrow"):
            self.require(is_plain(kind), "borrow")
        if word == "swap":
            self.require(inside == [kind], "kind")
        elif word == "use":
            self.require(is_copy(kind) or "^" not in place[1], "move")
        elif word == "is":
            self.require(kind[0] == "maybe", "kind")

    def known_kind(self, place):
        """The kind of a place, whose variable must be in scope and whose steps must fit."""
        variable, steps = place
        self.require(variable in self.kinds, "unknown")
        self.require(len(steps) <= MOST_STEPS, "step")
        try:
            return kind_at(place, records=self.program[0], kinds=self.kinds)
        except NoSuchStep:
            raise KindProblem(self.name, "step") from None

    def changed_kind(self, place):
        """The kind of a place that is to be changed; it must not cross a shared borrow."""
        kind = self.known_kind(place)
        records = self.program[0]
        leaf = crossed(place, records=records, kinds=self.kinds)
        if leaf is not None:
            borrow = kind_at(leaf, records=records, kinds=self.kinds)
            self.require(borrow[0] == "exclusive", "borrow")
        return kind

    def check_record(self, expression, inside):
        """Check a record expression."""
        _, name, expressions = expression
        self.require(name in self.sizes, "unknown")
        fields = fields_of(self.program[0], name)
        self.require(len(expressions) == len(fields), "count")
        self.require(inside == [kind for _, kind in fields], "kind")

    def check_call(self, expression, inside):
        """Check a call or a spawn."""
        word, name, expressions = expression
        function = function_named(self.program, name)
        self.require(function is not None, "unknown")
        _, parameters, result, _, _ = function
        self.require(len(expressions) == len(parameters), "count")
        self.require(word == "call" or is_plain(result), "spawn")
        self.require(inside == [kind for _, kind in parameters], "kind")


def are_operands(expression, inside):
    """Tell whether an expression without a place and without a name can have parts of these kinds."""
    word = expression[0]
    if word == "op":
        side = SIDE_KINDS[expression[1]]
        return inside == [side, side]
    if word == "not":
        return inside == [("bool",)]
    if word == "unbox":
        return inside[0][0] == "box"
    if word == "join":
        return inside[0][0] == "task"
    return True
