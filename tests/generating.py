"""Random programs that pass the check of kinds, the same ones for the same seed."""

import random

from building import BOOL, INT, UNIT, box, items, maybe, of, record
from forklent.checker import check_function
from forklent.errors import KindProblem, NoSuchStep
from forklent.kinding import check_kinds
from forklent.kinds import is_copy, is_plain, kind_after, leaves, levels

RECORDS = (
    record("Pair", INT, box(INT)),
    ("Node", (("n", INT), ("more", maybe(box(of("Node")))))),
    record("Both", of("Pair"), maybe(INT), items(BOOL, box(items(INT, INT)))),
)
PLAIN = (
    INT, INT, INT, INT, BOOL, box(INT), box(INT), maybe(INT), maybe(box(INT)), items(INT, INT), items(INT, box(INT)),
    of("Pair"), of("Node"), of("Both"), box(items(INT, maybe(INT))), box(box(INT)), UNIT,
)
ANY_PROBLEM = ("moved", "dead", "busy", "escape")


class Maker:
    """The making of one program."""

    def __init__(self, seed, allowed):
        self.random = random.Random(seed)
        # A statement is left out if its function would have a problem with it that is not one of these.
        self.allowed = allowed
        self.functions = []
        # How many variables were declared, and the kinds of all of them.
        self.names = 0
        self.kind_of_let = {}

    def pick(self, choices):
        return self.random.choice(list(choices))

    def chance(self, share):
        return self.random.random() < share

    def program(self):
        for at in range(self.random.randint(1, 4)):
            self.functions.append(self.function(f"f{at}", self.parameters(), self.result()))
        arguments = self.pick(((), (("a", INT),), (("a", INT), ("b", BOOL))))
        self.functions.append(self.function("main", arguments, self.pick(PLAIN)))
        return (RECORDS, tuple(self.functions))

    def some_kind(self, leaf_share):
        kind = self.any_kind(leaf_share)
        return kind if levels(kind) <= 6 else INT

    def any_kind(self, leaf_share):
        plain = self.pick(PLAIN)
        if not self.chance(leaf_share):
            return plain
        shape = self.random.random()
        kind = self.leaf_kind()
        if shape < 0.15:
            return maybe(kind)
        if shape < 0.25:
            return items(kind, plain)
        if shape < 0.35:
            return items(maybe(kind), self.leaf_kind())
        return kind

    def leaf_kind(self):
        results = [function[2] for function in self.functions if is_plain(function[2])]
        if results and self.chance(0.4):
            return ("task", self.pick(results))
        return (self.pick(("shared", "exclusive", "exclusive")), self.pick(PLAIN[:11]))

    def parameters(self):
        return tuple((f"p{at}", self.some_kind(0.6)) for at in range(self.random.randint(0, 3)))

    def result(self):
        return self.some_kind(0.3)

    def function(self, name, parameters, result):
        with_leaves = tuple(parameter for parameter, kind in parameters if leaves(kind))
        share = 0.8 if leaves(result) else 0.1
        sources = tuple(parameter for parameter in with_leaves if self.chance(share))
        self.signature = (name, parameters, result, sources)
        self.scope = list(parameters)
        # The open blocks: for each the statements before it, and what makes a statement of it.
        self.blocks = []
        # How many statements it still takes until no new block is opened.
        self.spare = 20
        block = self.block(self.random.randint(4, 14), 0)
        if result != UNIT or self.chance(0.3):
            block = self.with_return(block)
        return (*self.signature, block)

    def with_return(self, block):
        outside = len(self.scope)
        self.scope += [(statement[1], self.kind_of_let[statement[1]]) for statement in block if statement[0] == "let"]
        for _ in range(6):
            longer = block + (("return", self.expression(self.signature[2], 3)),)
            if self.fits(longer):
                block = longer
                break
        self.scope = self.scope[:outside]
        return block

    def fits(self, block):
        """Tell whether the function may have this as what it has so far."""
        name = self.signature[0]
        whole = block
        for before, wrap in reversed(self.blocks):
            whole = before + (wrap(whole),)
        functions = tuple(self.functions) + ((*self.signature, whole),)
        if name != "main":
            functions += (("main", (), UNIT, (), ()),)
        program = (RECORDS, functions)
        try:
            check_kinds(program)
        except KindProblem:
            return False
        found = check_function(program, name)
        return found is None or found[0] in self.allowed

    def block(self, many, depth):
        outside = len(self.scope)
        made = ()
        for _ in range(many):
            longer = self.statement(made, depth)
            if longer is not None:
                made = longer
        self.scope = self.scope[:outside]
        return made

    def statement(self, before, depth):
        """The block so far with one more statement, or None if the statement does not fit."""
        self.spare -= 1
        shape = self.random.random()
        if depth < 2 and self.spare > 0 and shape < 0.15:
            return self.nested(before, depth)
        if shape < 0.55:
            return self.let(before, *self.declared(shape))
        if shape < 0.7:
            place, kind = self.any_place(True)
            longer = before + (("store", place, self.expression(kind, 2)),)
        elif shape < 0.85:
            longer = before + (("print", self.expression(INT, 3)),)
        elif shape < 0.93:
            tasks = [(place, kind[1]) for place, kind in self.places(False) if kind[0] == "task"]
            if tasks:
                place, kind = self.pick(tasks)
                return self.let(before, kind, ("join", ("use", place)))
            longer = before + (("do", self.expression(UNIT, 3)),)
        elif shape < 0.98 or not self.blocks:
            longer = before + (("do", self.expression(self.some_kind(0.3), 3)),)
        else:
            longer = before + (("return", self.expression(self.signature[2], 2)),)
        return longer if self.fits(longer) else None

    def declared(self, shape):
        """The kind of a variable and its first value; threads and borrows come more often than by chance."""
        spawned = [function for function in self.functions if is_plain(function[2])]
        if shape < 0.27 and spawned:
            name, parameters, result, *_ = self.pick(spawned)
            arguments = tuple(self.argument(inside) for _, inside in parameters)
            task = ("spawn", name, arguments)
            if self.chance(0.2):
                return maybe(("task", result)), ("some", task)
            return ("task", result), task
        if shape < 0.37:
            found = [(place, kind) for place, kind in self.places(True) if is_plain(kind)]
            if found:
                place, kind = self.pick(found)
                mode = self.pick(("shared", "exclusive"))
                return (mode, kind), ("borrow", mode, place)
        kind = self.some_kind(0.2)
        return kind, self.expression(kind, 3)

    def argument(self, kind):
        """An expression for an argument; a borrow is rather a new one."""
        if kind[0] in ("shared", "exclusive") and self.chance(0.7):
            return self.pick(self.built(kind, 1))()
        return self.expression(kind, 2)

    def let(self, before, kind, expression):
        """The block with a new variable, or None if its value does not fit."""
        self.names += 1
        name = f"v{self.names}"
        longer = before + (("let", name, expression),)
        if not self.fits(longer):
            return None
        self.kind_of_let[name] = kind
        self.scope.append((name, kind))
        return longer

    def nested(self, before, depth):
        """The block so far with an `if` or a `while`, or None if it does not fit."""
        if self.chance(0.5):
            return self.branch(before, depth)
        # Most loops end, as they count.
        counter = self.counter()
        condition = self.expression(BOOL, 2)
        if counter is not None:
            condition = ("op", "<", ("use", counter), ("int", self.random.randint(1, 4)))
        self.blocks.append((before, lambda inside: ("while", condition, inside)))
        block = self.inner_block(depth)
        if counter is not None:
            longer = block + (("store", counter, ("op", "+", ("use", counter), ("int", 1))),)
            block = longer if self.fits(longer) else block
        self.blocks.pop()
        longer = before + (("while", condition, block),)
        return longer if self.fits(longer) else None

    def branch(self, before, depth):
        condition = self.expression(BOOL, 2)
        self.blocks.append((before, lambda inside: ("if", condition, inside, ())))
        first, second = self.inner_block(depth), ()
        self.blocks.pop()
        if self.chance(0.5):
            self.blocks.append((before, lambda inside: ("if", condition, first, inside)))
            second = self.inner_block(depth)
            self.blocks.pop()
        longer = before + (("if", condition, first, second),)
        return longer if self.fits(longer) else None

    def inner_block(self, depth):
        return self.block(self.random.randint(1, 4), depth + 1) if self.fits(()) else ()

    def counter(self):
        """A place of an integer that can be stored to."""
        found = [place for place, kind in self.places(True) if kind == INT]
        return self.pick(found) if found else None

    def places(self, stored):
        """All places in scope with up to four steps, and their kinds."""
        found = []
        row = [((name, ()), kind, True) for name, kind in self.scope]
        while row:
            place, kind, free = row.pop()
            if free or not stored:
                found.append((place, kind))
            if len(place[1]) < 4:
                for step in ("^", "?", 0, 1, "a", "b", "c", "n", "more"):
                    try:
                        inside = kind_after(RECORDS, kind, step)
                    except NoSuchStep:
                        continue
                    row.append(((place[0], place[1] + (step,)), inside, free and kind[0] != "shared"))
        return found

    def any_place(self, stored):
        found = self.places(stored)
        return self.pick(found) if found else (("none", ()), INT)

    def expression(self, kind, depth):
        """An expression of a kind, or nearly one."""
        ways = []
        if self.chance(0.75 if depth > 0 else 0.95):
            ways += self.uses(kind)
        if depth > 0:
            ways += self.deeper(kind, depth)
        if not ways or self.chance(0.2):
            ways = self.built(kind, depth)
        return self.pick(ways)()

    def uses(self, kind):
        found = [place for place, inside in self.places(False) if inside == kind]
        found = [place for place in found if is_copy(kind) or "^" not in place[1]]
        return [lambda place=place: ("use", place) for place in found]

    def deeper(self, kind, depth):
        ways = []
        functions = [function[:4] for function in self.functions]
        if self.chance(0.05):
            functions.append(self.signature)
        for name, parameters, result, _ in functions:
            def arguments(parameters=parameters):
                return tuple(self.expression(inside, depth - 1) for _, inside in parameters)
            if result == kind:
                ways += [lambda name=name, arguments=arguments: ("call", name, arguments())] * 2
            if ("task", result) == kind and is_plain(result):
                ways += [lambda name=name, arguments=arguments: ("spawn", name, arguments())] * 6
        if is_plain(kind):
            ways.append(lambda: ("unbox", self.expression(box(kind), depth - 1)))
            for place, inside in self.places(True):
                if inside == kind and self.chance(0.3):
                    ways.append(lambda place=place: ("swap", place, self.expression(kind, depth - 1)))
            tasks = [place for place, inside in self.places(False) if inside == ("task", kind)]
            ways += [lambda place=place: ("join", ("use", place)) for place in tasks] * 2
        if kind == INT:
            ways.append(lambda: ("op", self.pick("+-*"), self.expression(INT, depth - 1),
                                 self.expression(INT, depth - 1)))
        if kind == BOOL:
            ways.append(lambda: ("op", self.pick(("<", "==")), self.expression(INT, depth - 1),
                                 self.expression(INT, depth - 1)))
            maybes = [place for place, inside in self.places(False) if inside[0] == "maybe"]
            ways += [lambda place=place: ("is", place) for place in maybes]
        return ways

    def built(self, kind, depth):
        word = kind[0]
        if word == "int":
            return [lambda: ("int", self.random.choice((0, 1, 2, 3, 7, -5, 2147483647, -2147483648)))]
        if word == "bool":
            return [lambda: ("bool", self.chance(0.5)),
                    lambda: ("op", self.pick(("and", "or")), ("bool", True), ("bool", self.chance(0.5))),
                    lambda: ("not", ("bool", self.chance(0.5)))]
        if word == "unit":
            return [lambda: ("unit",)]
        if word == "maybe":
            return [lambda: ("none", kind[1]), lambda: ("some", self.expression(kind[1], depth - 1)),
                    lambda: ("some", self.expression(kind[1], depth - 1))]
        if word == "box":
            return [lambda: ("box", self.expression(kind[1], depth - 1))]
        if word == "tuple":
            return [lambda: ("tuple", tuple(self.expression(part, depth - 1) for part in kind[1]))]
        if word == "record":
            if depth < -3:
                return [lambda: smallest(kind)]
            fields = dict(RECORDS)[kind[1]]
            return [lambda: ("record", kind[1], tuple(self.expression(part, depth - 1) for _, part in fields))]
        if word in ("shared", "exclusive"):
            found = [place for place, inside in self.places(word == "exclusive") if inside == kind[1]]
            return [lambda place=place: ("borrow", word, place) for place in found] or [lambda: ("int", 0)]
        # A task comes from a place or a spawn only; what stands here does not fit, and the statement is left out.
        return [lambda: ("int", 0)]


def smallest(kind):
    """An expression of a plain kind without any choice."""
    word = kind[0]
    if word == "maybe":
        return ("none", kind[1])
    if word == "box":
        return ("box", smallest(kind[1]))
    if word == "tuple":
        return ("tuple", tuple(smallest(part) for part in kind[1]))
    if word == "record":
        return ("record", kind[1], tuple(smallest(part) for _, part in dict(RECORDS)[kind[1]]))
    return {"int": ("int", 4), "bool": ("bool", True), "unit": ("unit",)}[word]


def random_program(seed, allowed=()):
    """A program that passes the check of kinds, and in which the first problem of a function is an allowed one."""
    return Maker(seed, allowed).program()


def random_arguments(program, seed):
    """Arguments for main."""
    source = random.Random(seed)
    main = [function for function in program[1] if function[0] == "main"][0]
    choices = {"int": (0, 1, 2, 5, -3, 2147483647), "bool": (True, False)}
    return tuple(source.choice(choices[kind[0]]) for _, kind in main[1])
