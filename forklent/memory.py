"""Memory: a list of cells, of which rows are allocated as blocks."""

from forklent.errors import NotAllocated


class Memory:
    """The cells from 1 on. A new memory has no blocks."""

    def __init__(self):
        # The numbers in the cells that belong to a block, by their addresses.
        self.numbers = {}
        # The pairs of address and size of the blocks, in ascending order.
        self.rows = []

    def allocate(self, size):
        """Allocate a block at the lowest address that has room for it, and return the address."""
        address = 1
        at = 0
        while at < len(self.rows) and self.rows[at][0] - address < size:
            address = self.rows[at][0] + self.rows[at][1]
            at += 1
        self.rows.insert(at, (address, size))
        for cell in range(address, address + size):
            self.numbers[cell] = 0
        return address

    def release(self, address):
        """Give back the block that begins at an address."""
        found = [row for row in self.rows if row[0] == address]
        if not found:
            raise NotAllocated(address)
        self.rows.remove(found[0])
        for cell in range(address, address + found[0][1]):
            del self.numbers[cell]

    def read(self, address):
        """The number in a cell."""
        self.require_block(address)
        return self.numbers[address]

    def write(self, address, number):
        """Put a number into a cell."""
        self.require_block(address)
        self.numbers[address] = number

    def blocks(self):
        """The list of the pairs of address and size of all blocks, in ascending order."""
        return list(self.rows)

    def require_block(self, address):
        """Raise an error if a cell belongs to no block."""
        if address not in self.numbers:
            raise NotAllocated(address)
