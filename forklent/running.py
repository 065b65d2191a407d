"""Runs: the threads of a program, their open calls, and how they go on.

How values and variables are kept is the matter of a run's store: `Plain` of forklent.plain keeps them as they are,
`Cells` of forklent.cells in a memory.
"""

from forklent.checker import check_program
from forklent.effects import is_task, leaves_of, place_of
from forklent.errors import Refused
from forklent.graph import build_graph
from forklent.instructions import DOING, GIVING, Stopped


class Call:
    """An open call: the graph, the room in which the store keeps the variables, and the point that comes next."""

    def __init__(self, graph, room):
        self.graph = graph
        self.room = room
        self.point = 0

    def coming(self):
        """The instruction that comes next."""
        return self.graph.points[self.point]

    def go_on(self, choice):
        """Go on at one of the successors."""
        self.point = self.graph.successors[self.point][choice]


class Thread:
    """A thread: its number and path, its open calls, and what is told of it."""

    def __init__(self, number, path, call):
        self.number = number
        self.path = path
        self.calls = [call]
        self.result = call.graph.result
        self.spawned = 0
        self.printed = []
        self.ending = ("running",)
        # The value that its function returned, as the store has values.
        self.returned = None

    def has_ended(self):
        """Tell whether the thread has ended."""
        return self.ending[0] != "running"


class Run:
    """A run of a program. The threads are a dict from their numbers, into which a store may look, too."""

    def __init__(self, program, store, threads):
        self.store = store
        self.threads = threads
        self.graphs = {function[0]: build_graph(program, function[0]) for function in program[1]}
        self.awaited_leaves = {name: awaited_leaves(program, graph) for name, graph in self.graphs.items()}

    def begin(self, arguments):
        """Start the thread of main."""
        self.start((), "main", [self.store.simple(argument) for argument in arguments])

    def start(self, path, name, values):
        """Start a thread and return its number."""
        number = len(self.threads) + 1
        self.threads[number] = Thread(number, path, self.open_call(name, values))
        return number

    def open_call(self, name, values):
        """A new call of a function with these arguments."""
        graph = self.graphs[name]
        return Call(graph, self.store.open_room(graph, values))

    def awaited(self, thread):
        """The list of the threads that a thread's next instruction waits for, in the order of the cells."""
        call = thread.calls[-1]
        numbers = [self.store.task_at(call, leaf) for leaf in self.awaited_leaves[call.graph.name][call.point]]
        # Where a task was moved away, or where nothing is, there is no number of a thread.
        return [self.threads[number] for number in numbers if number in self.threads]

    def waits(self, thread):
        """Tell whether a thread's next instruction waits."""
        return any(not other.has_ended() for other in self.awaited(thread))

    def execute(self, thread):
        """Let a thread execute its next instruction, which does not wait."""
        try:
            for other in self.awaited(thread):
                if other.ending[0] == "stopped":
                    raise Stopped(other.ending[1])
            self.perform(thread)
        except Stopped as stop:
            thread.ending = ("stopped", stop.reason)

    def perform(self, thread):
        """Do what the next instruction of a thread says."""
        call = thread.calls[-1]
        instruction = call.coming()
        word = instruction[0]
        if word in GIVING:
            giving = GIVING[word]
            self.store.give(call, instruction[1], giving(self, thread, call, instruction))
            call.go_on(0)
        else:
            doing = DOING[word]
            doing(self, thread, call, instruction)

    def logs(self):
        """The logs of all threads that were started."""
        threads = sorted(list(self.threads.values()), key=path_of)
        return tuple([(thread.path, thread.ending, tuple(thread.printed)) for thread in threads])


def path_of(thread):
    """The path by which threads are sorted."""
    return thread.path


def require_accepted(program):
    """Raise Refused for a program that is not accepted."""
    if check_program(program) is not None:
        raise Refused("the program is not accepted")


def awaited_leaves(program, graph):
    """For each point the tuple of the leaves of the tasks that its instruction waits for."""
    found = []
    for instruction in graph.points:
        waiting = ()
        if instruction[0] == "join":
            waiting = ((instruction[2], ()),)
        elif instruction[0] in ("drop", "store"):
            within = leaves_of(program, graph, place_of(instruction))
            waiting = tuple([leaf for leaf in within if is_task(program, graph, leaf)])
        found.append(waiting)
    return found
