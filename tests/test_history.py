import random
import unittest
from unittest.mock import patch

from forklent.checker import check_program
from forklent.history import History
from forklent.machine import watch
from generating import ANY_PROBLEM, random_arguments, random_program


class Events:
    """What threads do, kept in full: a race is looked for among all pairs of events."""

    def __init__(self):
        self.instructions = [(1, ())]
        self.last = {1: 0}
        self.events = []
        self.cells = {}

    def begin(self, number):
        self.instructions.append((number, (self.last[number],)))
        self.last[number] = len(self.instructions) - 1

    def start(self, number, other):
        self.last[other] = self.last[number]

    def meet(self, number, other):
        at = self.last[number]
        self.instructions[at] = (number, self.instructions[at][1] + (self.last[other],))

    def note_new(self, number, cell):
        self.cells[cell] = self.cells.get(cell, 0) + 1
        self.note_write(number, cell)

    def note_read(self, number, cell):
        self.note(number, cell, False)

    def note_write(self, number, cell):
        self.note(number, cell, True)

    def note(self, number, cell, writes):
        # A cell that was never allocated has no events; to read or write it is a matter of the memory.
        if cell in self.cells:
            self.events.append((self.last[number], number, (cell, self.cells[cell]), writes))

    def is_before(self, first, second):
        """Tell whether there is a chain from one instruction to another one."""
        waiting, seen = [second], set()
        while waiting:
            at = waiting.pop()
            if at == first:
                return True
            if at not in seen and at > first:
                seen.add(at)
                waiting += self.instructions[at][1]
        return False

    @property
    def has_race(self):
        for at, (first, number, cell, writes) in enumerate(self.events):
            for second, other, same, also in self.events[at:]:
                if number != other and cell == same and (writes or also) and not self.is_before(first, second):
                    return True
        return False


class TestHistory(unittest.TestCase):
    def both(self, *steps):
        """What the history finds after these steps; the full events must agree."""
        history, events = History(), Events()
        for word, *arguments in steps:
            getattr(history, word)(*arguments)
            getattr(events, word)(*arguments)
        self.assertEqual(history.has_race, events.has_race, steps)
        return history.has_race

    def test_one_thread(self):
        self.assertFalse(self.both(
            ("note_new", 1, 5), ("begin", 1), ("note_read", 1, 5), ("note_write", 1, 5), ("begin", 1),
            ("note_read", 1, 5)))

    def test_a_start_orders_what_was_before_it(self):
        begin = (("begin", 1), ("note_new", 1, 5), ("begin", 1), ("note_write", 1, 5), ("start", 1, 2), ("begin", 2))
        self.assertFalse(self.both(*begin, ("note_write", 2, 5)))
        self.assertFalse(self.both(*begin, ("begin", 1), ("note_read", 1, 5), ("note_read", 2, 5)))
        self.assertTrue(self.both(*begin, ("begin", 1), ("note_write", 1, 5), ("note_read", 2, 5)))
        self.assertTrue(self.both(*begin, ("begin", 1), ("note_read", 1, 5), ("note_write", 2, 5)))
        self.assertTrue(self.both(*begin, ("note_write", 2, 5), ("begin", 1), ("note_read", 1, 5)))

    def test_waiting_orders_what_was_before_it(self):
        begin = (("begin", 1), ("note_new", 1, 5), ("start", 1, 2), ("begin", 2), ("note_write", 2, 5), ("begin", 1))
        self.assertFalse(self.both(*begin, ("meet", 1, 2), ("note_write", 1, 5)))
        self.assertTrue(self.both(*begin, ("note_write", 1, 5)))

    def test_a_chain_of_three(self):
        begin = (
            ("begin", 1), ("note_new", 1, 5), ("start", 1, 2), ("begin", 2), ("start", 2, 3), ("begin", 3),
            ("note_write", 3, 5), ("begin", 2), ("meet", 2, 3), ("begin", 1))
        self.assertFalse(self.both(*begin, ("meet", 1, 2), ("note_read", 1, 5)))
        self.assertTrue(self.both(*begin, ("note_read", 1, 5)))

    def test_a_read_behind_another_read(self):
        begin = (("begin", 1), ("note_new", 1, 5), ("start", 1, 2), ("begin", 2), ("note_read", 2, 5), ("begin", 1),
                 ("start", 1, 3), ("begin", 3), ("note_read", 3, 5), ("begin", 1))
        self.assertTrue(self.both(*begin, ("meet", 1, 3), ("note_write", 1, 5)))
        self.assertTrue(self.both(*begin, ("meet", 1, 2), ("note_write", 1, 5)))
        self.assertFalse(self.both(*begin, ("meet", 1, 2), ("meet", 1, 3), ("note_write", 1, 5)))

    def test_a_cell_that_is_allocated_again(self):
        begin = (("begin", 1), ("note_new", 1, 5), ("start", 1, 2), ("begin", 2), ("note_write", 2, 5), ("begin", 1))
        self.assertFalse(self.both(*begin, ("note_new", 1, 5), ("note_write", 1, 5)))
        self.assertTrue(self.both(*begin, ("note_new", 1, 5), ("begin", 2), ("note_read", 2, 5)))

    def test_random_histories(self):
        races = 0
        for seed in range(600):
            source = random.Random(seed)
            steps = [("begin", 1)] + [("note_new", 1, cell) for cell in range(4)]
            live, owned = [1], {1: []}
            for _ in range(source.randint(3, 25)):
                number = source.choice(live)
                steps.append(("begin", number))
                choice = source.random()
                if choice < 0.25 and len(owned) < 6:
                    owned[number].append(len(owned) + 1)
                    live.append(len(owned) + 1)
                    steps.append(("start", number, len(owned) + 1))
                    owned[len(owned) + 1] = []
                elif choice < 0.5 and owned[number]:
                    other = owned[number].pop()
                    if other in live and not owned[other]:
                        live.remove(other)
                        steps.append(("meet", number, other))
                else:
                    word = source.choice(("note_read", "note_read", "note_write"))
                    steps += [(word, number, source.randrange(4))] * source.choice((1, 1, 1, 2))
                if source.random() < 0.05:
                    steps.append(("note_new", number, source.randrange(4)))
                if self.both(*steps):
                    races += 1
                    break
        self.assertGreater(races, 100)
        self.assertLess(races, 500)

    def test_random_programs_that_are_refused(self):
        verdicts = []
        # Few random programs have a race; those of the first seeds do.
        busy = [random_program(seed, ("busy",)) for seed in (184, 197, 209, 284, 320)]
        others = [random_program(seed, ANY_PROBLEM) for seed in range(40)]
        for seed, program in enumerate(busy + others):
            if check_program(program) is not None:
                arguments = random_arguments(program, seed)
                for schedule in ((1,), (0, 2, 1, 1)):
                    found = watch(program, arguments, schedule, 80)
                    with patch("forklent.machine.History", Events):
                        self.assertEqual(watch(program, arguments, schedule, 80), found)
                    verdicts.append(found[0] and found[0][0])
        self.assertEqual(set(verdicts), {None, "gone", "race"})


if __name__ == "__main__":
    unittest.main()
