"""Machines: runs in a memory under a schedule."""

from forklent.cells import Cells
from forklent.errors import NotAllocated
from forklent.history import History
from forklent.instructions import Gone
from forklent.running import Run, path_of, require_accepted
from forklent.tracked import Tracked


def run_memory(program, arguments, schedule, limit):
    """The logs of a run of a program that is accepted."""
    return accepted_machine(program, arguments, schedule, limit).run.logs()


def trace_memory(program, arguments, schedule, limit):
    """The tuple of the allocations and releases of a run of a program that is accepted."""
    return tuple(accepted_machine(program, arguments, schedule, limit).memory.events)


def watch(program, arguments, schedule, limit):
    """The verdict on a run of any program, and its logs."""
    machine = Machine(program, arguments, History())
    machine.make_turns(schedule, limit)
    return (machine.verdict, machine.run.logs())


def accepted_machine(program, arguments, schedule, limit):
    """A machine for a program that is accepted, after its last turn."""
    require_accepted(program)
    machine = Machine(program, arguments, None)
    machine.make_turns(schedule, limit)
    return machine


class Machine:
    """A run in a memory, turn by turn. The history may be None; then races are not looked for."""

    def __init__(self, program, arguments, history):
        threads = {}
        self.history = history
        self.memory = Tracked(history)
        self.run = Run(program, Cells(program, threads, self.memory), threads)
        self.run.begin(arguments)
        self.verdict = None
        self.ready = self.found_ready()

    def found_ready(self):
        """The list of the threads that can execute an instruction, in ascending order of their paths."""
        live = [thread for thread in self.run.threads.values() if not thread.has_ended()]
        return sorted([thread for thread in live if not self.run.waits(thread)], key=path_of)

    def make_turns(self, schedule, limit):
        """Make turns up to the limit, unless a verdict comes or no thread can go on."""
        order = schedule if schedule else (0,)
        for turn in range(limit):
            if not self.ready or self.verdict is not None:
                break
            self.make_turn(self.ready[order[turn % len(order)] % len(self.ready)])

    def make_turn(self, thread):
        """Let a thread execute one instruction."""
        many = len(self.run.threads)
        self.note_begin(thread)
        try:
            self.run.execute(thread)
        except (Gone, NotAllocated):
            self.verdict = ("gone", thread.path)
            return
        self.note_end(thread, many)
        # Nothing else changes which threads can go on.
        if thread.has_ended() or len(self.run.threads) > many or self.run.waits(thread):
            self.ready = self.found_ready()

    def note_begin(self, thread):
        """Tell the memory and the history who acts, and for whom this thread has waited."""
        self.memory.act(thread)
        if self.history is not None:
            self.history.begin(thread.number)
            for other in self.run.awaited(thread):
                self.history.meet(thread.number, other.number)

    def note_end(self, thread, many):
        """Tell the history which threads were started, and take its verdict."""
        if self.history is not None:
            for number in range(many + 1, len(self.run.threads) + 1):
                self.history.start(thread.number, number)
            if self.history.has_race:
                self.verdict = ("race", thread.path)
