import unittest

from forklent.errors import ForkError, NotAllocated
from forklent.memory import Memory


class TestMemory(unittest.TestCase):
    def refuse(self, address, function, *arguments):
        with self.assertRaises(ForkError) as caught:
            function(*arguments)
        self.assertIs(type(caught.exception), NotAllocated)
        self.assertEqual(caught.exception.address, address)

    def test_a_new_memory_has_no_blocks(self):
        memory = Memory()
        self.assertEqual(memory.blocks(), [])
        for address in (0, 1, 2, 100, -1):
            self.refuse(address, memory.read, address)
            self.refuse(address, memory.write, address, 5)
            self.refuse(address, memory.release, address)
        self.assertEqual(memory.blocks(), [])

    def test_blocks_follow_one_another(self):
        memory = Memory()
        self.assertEqual([memory.allocate(size) for size in (3, 1, 2, 60)], [1, 4, 5, 7])
        self.assertEqual(memory.blocks(), [(1, 3), (4, 1), (5, 2), (7, 60)])
        self.refuse(67, memory.read, 67)
        self.refuse(0, memory.read, 0)

    def test_cells_are_read_as_they_were_written(self):
        memory = Memory()
        memory.allocate(3)
        self.assertEqual([memory.read(address) for address in (1, 2, 3)], [0, 0, 0])
        memory.write(2, -2147483648)
        memory.write(3, 7)
        memory.write(3, 8)
        self.assertEqual([memory.read(address) for address in (1, 2, 3)], [0, -2147483648, 8])
        self.refuse(4, memory.write, 4, 1)
        self.refuse(4, memory.read, 4)

    def test_the_lowest_gap_that_is_large_enough(self):
        memory = Memory()
        for size in (2, 1, 3, 1, 4, 1):
            memory.allocate(size)
        for address in (1, 4, 8):
            memory.release(address)
        # Free are two cells at 1, three at 4, four at 8, and all from 13 on.
        self.assertEqual(memory.blocks(), [(3, 1), (7, 1), (12, 1)])
        self.assertEqual(memory.allocate(3), 4)
        self.assertEqual(memory.allocate(3), 8)
        self.assertEqual(memory.allocate(1), 1)
        self.assertEqual(memory.allocate(2), 13)
        self.assertEqual(memory.allocate(1), 2)
        self.assertEqual(memory.allocate(1), 11)
        self.assertEqual(memory.blocks(), [(1, 1), (2, 1), (3, 1), (4, 3), (7, 1), (8, 3), (11, 1), (12, 1), (13, 2)])

    def test_free_cells_beside_one_another_are_one_gap(self):
        memory = Memory()
        for size in (2, 2, 2, 1):
            memory.allocate(size)
        for address in (3, 5, 1):
            memory.release(address)
        self.assertEqual(memory.allocate(6), 1)
        self.assertEqual(memory.blocks(), [(1, 6), (7, 1)])

    def test_the_cells_of_a_new_block_are_0(self):
        memory = Memory()
        memory.allocate(3)
        for address in (1, 2, 3):
            memory.write(address, 9)
        memory.release(1)
        self.assertEqual(memory.allocate(2), 1)
        self.assertEqual([memory.read(1), memory.read(2)], [0, 0])
        self.refuse(3, memory.read, 3)
        self.assertEqual(memory.allocate(1), 3)
        self.assertEqual(memory.read(3), 0)

    def test_other_blocks_stay_as_they_are(self):
        memory = Memory()
        memory.allocate(2)
        memory.allocate(2)
        memory.write(3, 5)
        memory.release(1)
        self.assertEqual(memory.read(3), 5)
        memory.allocate(1)
        self.assertEqual(memory.read(3), 5)

    def test_what_is_released(self):
        memory = Memory()
        memory.allocate(3)
        memory.allocate(1)
        for address in (0, 2, 3, 5):
            self.refuse(address, memory.release, address)
        self.assertEqual(memory.blocks(), [(1, 3), (4, 1)])
        memory.release(1)
        for address in (1, 2, 3):
            self.refuse(address, memory.read, address)
            self.refuse(address, memory.write, address, 1)
            self.refuse(address, memory.release, address)
        self.assertEqual(memory.read(4), 0)

    def test_the_list_of_blocks_is_a_new_one(self):
        memory = Memory()
        memory.allocate(2)
        found = memory.blocks()
        found.append((9, 9))
        found[0] = (5, 5)
        self.assertEqual(memory.blocks(), [(1, 2)])

    def test_two_memories(self):
        first, second = Memory(), Memory()
        first.allocate(2)
        first.write(1, 5)
        self.assertEqual(second.blocks(), [])
        self.refuse(1, second.read, 1)
        self.assertEqual(second.allocate(4), 1)
        self.assertEqual(second.read(1), 0)
        second.release(1)
        self.assertEqual((first.read(1), first.blocks()), (5, [(1, 2)]))


if __name__ == "__main__":
    unittest.main()
