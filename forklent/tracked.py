"""A memory that keeps what is allocated and released in it, and lets a history know what is read and written."""

from forklent.memory import Memory


class Tracked:
    """A memory for a run. The history may be None."""

    def __init__(self, history):
        self.memory = Memory()
        self.history = history
        # All allocations and releases in their order.
        self.events = []
        # Who acts. The block of main is allocated before its thread is there.
        self.number = 1
        self.path = ()

    def act(self, thread):
        """Take what comes next as done by a thread."""
        self.number = thread.number
        self.path = thread.path

    def allocate(self, many):
        """Allocate a block of so many cells, and return its address."""
        address = self.memory.allocate(many)
        self.events.append(("allocate", self.path, address, many))
        if self.history is not None:
            for cell in range(address, address + many):
                self.history.note_new(self.number, cell)
        return address

    def release(self, address, many):
        """Give back the block of so many cells that begins at an address."""
        if self.history is not None:
            for cell in range(address, address + many):
                self.history.note_write(self.number, cell)
        self.memory.release(address)
        self.events.append(("release", self.path, address))

    def read(self, address):
        """The number in a cell."""
        if self.history is not None:
            self.history.note_read(self.number, address)
        return self.memory.read(address)

    def read_row(self, address, many):
        """The tuple of the numbers in so many cells in a row."""
        return tuple([self.read(cell) for cell in range(address, address + many)])

    def write_row(self, address, numbers):
        """Put numbers into cells in a row."""
        for at, number in enumerate(numbers):
            if self.history is not None:
                self.history.note_write(self.number, address + at)
            self.memory.write(address + at, number)

    def peek(self, address):
        """The number in a cell, which does not count as read."""
        return self.memory.read(address)

    def peek_row(self, address, many):
        """The tuple of the numbers in so many cells in a row, which do not count as read."""
        return tuple([self.peek(cell) for cell in range(address, address + many)])
