"""Papers: what makes a program acceptable, written down, and the judge that reads it."""

from forklent.checker import Search, check_program
from forklent.errors import NoSuchStep, Refused
from forklent.graph import build_graph
from forklent.kinding import MOST_STEPS
from forklent.kinds import leaves
from forklent.marks import Passing, first_marks, lent_parameters, loans, new_marks
from forklent.places import kind_at


def paper(program):
    """The least right paper of a program that is accepted."""
    if check_program(program) is not None:
        raise Refused("there is no right paper of a program that is not accepted")
    return tuple([entries_of(program, function[0]) for function in program[1]])


def entries_of(program, name):
    """The entries of the least right paper for a function."""
    reached = Search(program, build_graph(program, name)).marks_reached()
    return tuple([None if marks is None else tuple(sorted(marks, key=text_of)) for marks in reached])


def text_of(mark):
    """The text by which marks are sorted."""
    return repr(mark)


def judge(program, paper):
    """Tell whether a paper is right for a program."""
    functions = program[1]
    if len(paper) != len(functions):
        return False
    return all(are_right(program, function[0], entries) for function, entries in zip(functions, paper))


def are_right(program, name, entries):
    """Tell whether the entries of a paper for a function are right."""
    graph = build_graph(program, name)
    if len(entries) != len(graph.points):
        return False
    reader = Reader(program, graph)
    if not all(reader.is_mark(mark) for entry in entries if entry is not None for mark in entry):
        return False
    held = [None if entry is None else {mark: True for mark in entry} for entry in entries]
    if not holds_all(held[0], first_marks(program, graph)):
        return False
    return all(reader.is_kept(held, point) for point in range(len(entries)))


def holds_all(marks, wanted):
    """Tell whether an entry is not None and has all of the wanted marks."""
    return marks is not None and all(mark in marks for mark in wanted)


class Reader:
    """What the judge knows of a function when it reads the entries for it."""

    def __init__(self, program, graph):
        self.program = program
        self.graph = graph
        self.loans = loans(program, graph)
        self.parameters = lent_parameters(graph)

    def is_mark(self, mark):
        """Tell whether a mark speaks of leaves, loans and places that the function has."""
        if mark[0] == "moved":
            return self.is_place(mark[1])
        _, leaf, loan, _ = mark
        return self.is_leaf(leaf) and self.is_loan(loan)

    def is_leaf(self, leaf):
        """Tell whether a place is a leaf of the function."""
        return self.is_place(leaf) and leaf[1] in leaves(self.graph.kinds[leaf[0]])

    def is_loan(self, loan):
        """Tell whether the function has a loan of this name."""
        # Python counts True and False as integers; the document does not.
        if isinstance(loan, bool):
            return False
        return loan in self.loans or loan in self.parameters

    def is_place(self, place):
        """Tell whether a place fits the kinds of the function's variables."""
        variable, steps = place
        if variable not in self.graph.kinds or len(steps) > MOST_STEPS:
            return False
        try:
            kind_at(place, records=self.program[0], kinds=self.graph.kinds)
        except NoSuchStep:
            return False
        return True

    def is_kept(self, held, point):
        """Tell whether the marks at a point show no problem, and stand behind it as they must."""
        if held[point] is None:
            return True
        passing = Passing(self.program, self.graph, point)
        if any(passing.shown(mark) != [] for mark in held[point]):
            return False
        wanted = new_marks(self.program, self.graph, point)
        for mark in held[point]:
            wanted.extend(passing.passed(mark))
        return all(holds_all(held[successor], wanted) for successor in self.graph.successors[point])
