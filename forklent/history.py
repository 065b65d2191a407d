"""The history of a run: which thread did what before what, and whether two did something to a cell without an order.

What a thread does is counted by the instructions that it has begun. Its clock is a dict from the numbers of threads
to counts: what another thread did up to that count is ordered before what this one does next.
"""


class History:
    """What the threads did so far. The first thread has the number 1."""

    def __init__(self):
        self.clocks = {1: {1: 0}}
        # For each cell the number of the thread that wrote it last, and its count.
        self.writes = {}
        # For each cell the counts of those who read it since then.
        self.reads = {}
        self.has_race = False

    def begin(self, number):
        """A thread begins an instruction."""
        self.clocks[number][number] += 1

    def start(self, number, other):
        """A thread has started another one."""
        clock = self.clocks[number]
        self.clocks[other] = {known: clock[known] for known in clock}
        self.clocks[other][other] = 0

    def meet(self, number, other):
        """A thread has waited for another one."""
        clock = self.clocks[number]
        for known, count in list(self.clocks[other].items()):
            clock[known] = max(count, clock.get(known, 0))

    def note_new(self, number, cell):
        """A thread has allocated a cell, which is another one than that which had its address before."""
        self.writes[cell] = (number, self.clocks[number][number])
        self.reads[cell] = {}

    def note_read(self, number, cell):
        """A thread reads a cell."""
        if cell in self.writes:
            self.check(number, self.writes[cell])
            self.reads[cell][number] = self.clocks[number][number]

    def note_write(self, number, cell):
        """A thread writes a cell."""
        if cell in self.writes:
            self.check(number, self.writes[cell])
            # As long as there is no race, a write is behind all that came before it. So what came before the last
            # write need not be kept.
            for done in self.reads[cell].items():
                self.check(number, done)
            self.note_new(number, cell)

    def check(self, number, done):
        """Look whether what was done to a cell is ordered before what a thread does to it now."""
        other, count = done
        if self.clocks[number].get(other, 0) < count:
            self.has_race = True
