"""Marks: what is lent and what was moved at a point, how instructions change that, and which problems it shows."""

from forklent.effects import access, clears, is_task, leaves_of, moves, place_of, uses
from forklent.kinds import leaves
from forklent.places import crossed, is_prefix, kind_at, overlap

# The problems in the order in which they are told.
REASONS = ("moved", "dead", "busy", "escape")
# The instructions that need the whole place of which they speak; a `store` needs only the way to it.
NEEDING_WORDS = ("copy", "move", "borrow", "is", "swap")


def loans(program, graph):
    """A dict from the names of the loans of instructions to pairs of mode and place."""
    found = {}
    for point, instruction in enumerate(graph.points):
        if makes_loan(program, graph, instruction):
            found[point] = (instruction[2], instruction[3])
    return found


def makes_loan(program, graph, instruction):
    """Tell whether an instruction makes a loan."""
    if instruction[0] != "borrow":
        return False
    leaf = crossed(instruction[3], records=program[0], kinds=graph.kinds)
    return leaf is None or kind_at(leaf, records=program[0], kinds=graph.kinds)[0] == "exclusive"


def conflicts(wanted, loan, crossing):
    """Tell whether an access conflicts with a loan of an instruction."""
    mode, place = wanted
    lent_mode, lent_place = loan
    if not overlap(place, lent_place):
        return False
    if mode == "read":
        return lent_mode == "exclusive"
    if mode == "store" and crossing is not None and is_prefix(place, lent_place):
        # What a borrow refers to stays as it is when the borrow itself gets another value.
        return crossing < len(place[1])
    return True


def first_marks(program, graph):
    """The list of the marks with which a function begins."""
    return [("loan", leaf, name, "alive") for name in graph.parameters
            for leaf in leaves_of(program, graph, (name, ()))]


def new_marks(program, graph, point):
    """The list of the marks that the instruction at a point gives."""
    instruction = graph.points[point]
    if makes_loan(program, graph, instruction):
        return [("loan", (instruction[1], ()), point, "alive")]
    if instruction[0] == "move":
        return [("moved", instruction[2])]
    return []


def pass_mark(program, graph, point, mark):
    """The list of the marks that a mark becomes when the instruction at a point is passed."""
    return Passing(program, graph, point).passed(mark)


def problems(program, graph, point, marks):
    """The tuple of the problems that marks show at a point."""
    passing = Passing(program, graph, point)
    shown = [reason for mark in marks for reason in passing.shown(mark)]
    return tuple([reason for reason in REASONS if reason in shown])


def lent_parameters(graph):
    """The names of the parameters that are loans."""
    return [name for name in graph.parameters if leaves(graph.kinds[name]) != ()]


class Passing:
    """What the instruction at one point does to marks, and which marks show a problem there."""

    def __init__(self, program, graph, point):
        self.program = program
        self.graph = graph
        self.instruction = graph.points[point]
        self.wanted = access(program, graph, point)
        # The leaves are the keys of dicts, as there may be many of them, and many marks to pass.
        self.used = {leaf: True for leaf in uses(program, graph, point)}
        self.cleared = {leaf: True for leaf in clears(program, graph, point)}
        self.ends = {}
        for begin, end in moves(program, graph, point):
            self.ends.setdefault(begin, []).append(end)
        # The states that were worked out already, by the names of the loans.
        self.states = {}

    def passed(self, mark):
        """The list of the marks that a mark becomes."""
        if mark[0] == "moved":
            return [] if self.fills(mark[1]) else [mark]
        _, leaf, loan, state = mark
        if state == "alive":
            state = self.state_after(loan)
        marks = [("loan", end, loan, state) for end in self.ends.get(leaf, [])]
        if leaf not in self.cleared:
            marks.append(("loan", leaf, loan, state))
        return marks

    def fills(self, place):
        """Tell whether the instruction puts an end to the fact that a place was moved."""
        word = self.instruction[0]
        return word in ("let", "drop", "store") and is_prefix(place_of(self.instruction), place)

    def state_after(self, loan):
        """The state in which a mark of a loan is afterwards that was alive before."""
        if loan not in self.states:
            self.states[loan] = self.worked_out_state(loan)
        return self.states[loan]

    def worked_out_state(self, loan):
        """The state in which a mark of a loan is afterwards that was alive before, from the rules."""
        # No access conflicts with the loan of a parameter, and its place crosses nothing.
        if isinstance(loan, str):
            return "alive"
        _, _, mode, place = self.graph.points[loan]
        leaf = crossed(place, records=self.program[0], kinds=self.graph.kinds)
        crossing = None if leaf is None else len(leaf[1])
        if self.wanted is not None and conflicts(self.wanted, (mode, place), crossing):
            return "dead"
        if self.instruction[0] in ("let", "store", "drop") and leaf in self.cleared:
            return "loose"
        return "alive"

    def shown(self, mark):
        """The list of the problems that a mark shows."""
        if mark[0] == "moved":
            return ["moved"] if self.needs(mark[1]) else []
        _, leaf, loan, state = mark
        found = []
        if state == "dead" and leaf in self.used:
            found.append("dead")
        if state == "alive" and self.disturbs(leaf, loan):
            found.append("busy")
        if self.instruction[0] == "leave" and leaf in self.used and self.is_withheld(loan):
            found.append("escape")
        return found

    def needs(self, place):
        """Tell whether the instruction needs something of a place."""
        word = self.instruction[0]
        if word in NEEDING_WORDS:
            return overlap(place_of(self.instruction), place)
        if word == "store":
            target = place_of(self.instruction)
            return target != place and is_prefix(place, target)
        return False

    def disturbs(self, leaf, loan):
        """Tell whether the access gets in the way of a thread: the leaf is its task, and the loan is what it has."""
        if self.state_after(loan) != "dead" or not is_task(self.program, self.graph, leaf):
            return False
        # These instructions wait for the tasks in what they replace before they make their access.
        waits = self.instruction[0] in ("drop", "store") and is_prefix(place_of(self.instruction), leaf)
        return not waits

    def is_withheld(self, loan):
        """Tell whether a loan is a parameter that is not one of the function's sources."""
        return isinstance(loan, str) and loan not in self.graph.sources
