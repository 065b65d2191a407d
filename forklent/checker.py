"""The check of functions: whether a path of the graph shows a problem, and a shortest one that does."""

from forklent.graph import build_graph
from forklent.marks import Passing, first_marks, new_marks


def check_function(program, name):
    """None if no path of the function shows a problem, otherwise the reason and a shortest path that shows it."""
    search = Search(program, build_graph(program, name))
    if search.found is None:
        return None
    reason, state = search.found
    return (reason, search.path_to(state))


def check_program(program):
    """None if no function has a problem, otherwise the name of the first one that has, the reason and a path."""
    for function in program[1]:
        found = check_function(program, function[0])
        if found is not None:
            reason, path = found
            return (function[0], reason, path)
    return None


class Search:
    """All that comes to the points of a graph, up to the first problem.

    A mark becomes others whatever else stands beside it, and a single mark shows a problem. So it is enough to look
    at pairs of a point and a mark, the nearest to the beginning first; with None for the mark the pair tells that
    the point itself is reached.
    """

    def __init__(self, program, graph):
        self.program = program
        self.graph = graph
        self.passings = [Passing(program, graph, point) for point in range(len(graph.points))]
        # For each pair the pair before it on a shortest path.
        self.before = {}
        # A problem and the pair that shows it, or None.
        self.found = None
        self.spread()

    def spread(self):
        """Go from the beginning to all that is reached, or to the first problem."""
        marks = first_marks(self.program, self.graph)
        frontier = self.fresh(None, [(0, None)] + [(0, mark) for mark in marks])
        while frontier and self.found is None:
            following = []
            for state in frontier:
                self.look(state)
                following.extend(self.fresh(state, self.states_after(state)))
            frontier = following

    def fresh(self, state, others):
        """Those of the pairs behind a pair that are new; from now on they are known."""
        found = []
        for other in others:
            if other not in self.before:
                self.before[other] = state
                found.append(other)
        return found

    def look(self, state):
        """Keep the problem that a pair shows, if it is the first one."""
        point, mark = state
        if mark is not None and self.found is None:
            for reason in self.passings[point].shown(mark):
                self.found = (reason, state)

    def states_after(self, state):
        """The pairs that a pair becomes when its point is passed."""
        point, mark = state
        if mark is None:
            marks = [None] + new_marks(self.program, self.graph, point)
        else:
            marks = self.passings[point].passed(mark)
        return [(successor, other) for successor in self.graph.successors[point] for other in marks]

    def path_to(self, state):
        """The path by which a pair is reached."""
        path = []
        while state is not None:
            path.append(state[0])
            state = self.before[state]
        return tuple(reversed(path))

    def marks_reached(self):
        """For each point the list of the marks that come to it, or None if no path reaches it."""
        found = [[] if (point, None) in self.before else None for point in range(len(self.graph.points))]
        for point, mark in self.before:
            if mark is not None:
                found[point].append(mark)
        return found
