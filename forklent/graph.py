"""Graphs: the instructions that a function is lowered to, and which of them follow which."""

from forklent.errors import NoSuchFunction
from forklent.kinds import is_copy
from forklent.programs import function_named, kind_made, parts_of, place_in


class Graph:
    """The graph of a function. A new one has no points yet."""

    def __init__(self, function):
        name, parameters, result, sources, _ = function
        self.name = name
        self.parameters = tuple([parameter for parameter, _ in parameters])
        self.sources = sources
        self.result = result
        self.kinds = {parameter: kind for parameter, kind in parameters}
        self.points = []
        self.successors = []


def build_graph(program, name):
    """The graph of the function with this name."""
    function = function_named(program, name)
    if function is None:
        raise NoSuchFunction(name)
    lowering = Lowering(program, function)
    lowering.lower_function(function[4])
    return lowering.graph


class Lowering:
    """The building of the graph of one function."""

    def __init__(self, program, function):
        self.program = program
        self.graph = Graph(function)
        # What is in scope, in the order in which it was declared; the parameters come first.
        self.scope = list(self.graph.parameters)
        self.temporaries = 0

    def lower_function(self, block):
        """Add the points of the function's block and of its end."""
        self.lower_block(block)
        if self.graph.result == ("unit",):
            self.add_leave(self.lower_expression(("unit",)))
        else:
            self.add_end(("stop",))

    def add_point(self, instruction):
        """Add a point that the next point follows, and return its number."""
        self.graph.points.append(instruction)
        self.graph.successors.append((len(self.graph.points),))
        return len(self.graph.points) - 1

    def add_end(self, instruction):
        """Add a point that no point follows."""
        self.graph.points.append(instruction)
        self.graph.successors.append(())

    def add_drops(self, names):
        """Add a drop of each of the variables, the last one first."""
        for name in reversed(names):
            self.add_point(("drop", name))

    def add_leave(self, temporary):
        """Add the drops of all that is in scope, and the end of the function."""
        self.add_drops(self.scope)
        self.add_end(("leave", temporary))

    def lower_block(self, block):
        """Add the points of a block and the drops of the variables that it declares itself."""
        outside = len(self.scope)
        for statement in block:
            self.lower_statement(statement)
        self.add_drops(self.scope[outside:])
        self.scope = self.scope[:outside]

    def lower_statement(self, statement):
        """Add the points of a statement."""
        word = statement[0]
        if word == "if":
            self.lower_if(statement)
        elif word == "while":
            self.lower_while(statement)
        elif word == "let":
            self.lower_let(statement)
        elif word == "store":
            _, place, expression = statement
            self.add_point(("store", place, self.lower_expression(expression)))
        elif word == "return":
            self.add_leave(self.lower_expression(statement[1]))
        elif word == "do":
            self.add_point(("drop", self.lower_expression(statement[1])))
        else:
            self.add_point(("print", self.lower_expression(statement[1])))

    def lower_let(self, statement):
        """Add the points of a `let`, and take its variable into scope."""
        _, name, expression = statement
        temporary = self.lower_expression(expression)
        self.graph.kinds[name] = self.graph.kinds[temporary]
        self.scope.append(name)
        self.add_point(("let", name, temporary))

    def lower_if(self, statement):
        """Add the points of an `if`."""
        _, condition, first, second = statement
        test = self.add_point(("test", self.lower_expression(condition)))
        self.lower_block(first)
        jump = self.add_point(("jump",))
        self.lower_block(second)
        self.graph.successors[test] = (test + 1, jump + 1)
        self.graph.successors[jump] = (len(self.graph.points),)

    def lower_while(self, statement):
        """Add the points of a `while`."""
        _, condition, block = statement
        begin = len(self.graph.points)
        test = self.add_point(("test", self.lower_expression(condition)))
        self.lower_block(block)
        jump = self.add_point(("jump",))
        self.graph.successors[test] = (test + 1, jump + 1)
        self.graph.successors[jump] = (begin,)

    def lower_expression(self, expression):
        """Add the points of an expression, its parts first, and return the temporary that it gives."""
        parts = tuple([self.lower_expression(part) for part in parts_of(expression)])
        kinds = self.graph.kinds
        kind = kind_made(self.program, kinds, expression, [kinds[part] for part in parts])
        temporary = "#" + str(self.temporaries)
        self.temporaries += 1
        kinds[temporary] = kind
        self.add_point(instruction_for(expression, kind, temporary, parts))
        return temporary


def instruction_for(expression, kind, temporary, parts):
    """The instruction that gives a temporary the value of an expression of this kind."""
    word = expression[0]
    if word in ("int", "bool", "unit", "none"):
        return ("set", temporary, expression)
    if word in ("some", "box", "tuple"):
        return ("make", temporary, word, parts)
    if word == "record":
        return ("make", temporary, expression[1], parts)
    if word == "use":
        return ("copy" if is_copy(kind) else "move", temporary, place_in(expression))
    if word == "borrow":
        return ("borrow", temporary, expression[1], place_in(expression))
    if word == "is":
        return ("is", temporary, place_in(expression))
    if word == "swap":
        return ("swap", temporary, place_in(expression), parts[0])
    if word == "op":
        return ("op", temporary, expression[1], parts[0], parts[1])
    if word in ("call", "spawn"):
        return (word, temporary, expression[1], parts)
    # What is left has one part: `unbox`, `join` and `not`.
    return (word, temporary, parts[0])
