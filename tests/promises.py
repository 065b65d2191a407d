"""What holds of every run of an accepted program, as checks that several tests use."""

import copy
import unittest

from building import BOX, EXCLUSIVE, INT, at, give, join, let, main, num, op, record, seize, show, spawn, store, use
from forklent.checker import check_program
from forklent.kinding import check_kinds
from forklent.machine import run_memory, trace_memory, watch
from forklent.meaning import meaning

RUNNING = ("running",)
NOTHING = ("unit",)
PAIR = record("Pair", INT, BOX)
ONE = ("one", (), INT, (), (show(num(1)), give(num(1))))
ADD = ("add", (("r", EXCLUSIVE), ("n", INT)), INT, (), (
    store(at("r", "^"), op("+", use("r", "^"), use("n"))), give(use("r", "^"))))
# It stops its thread.
FALL = ("fall", (), INT, (), (show(num(7)),))


def example(*prints):
    """The example of the document, with these as its two statements that print."""
    return ((), (ADD, main(
        let("x", ("tuple", (use("a"), num(10)))), let("s", spawn("add", seize("x", 0), num(1))),
        let("t", spawn("add", seize("x", 1), num(2))), *prints, give(join(use("t"))), parameters=(("a", INT),),
        result=INT)))


PRINTS = (show(join(use("s"))), show(use("x", 0)))
EXAMPLE = example(*PRINTS)
# It reads a place that the first thread has borrowed exclusively.
EXCHANGED = example(*reversed(PRINTS))
SCHEDULES = ((), (0,), (1,), (5, 0, 3), (0, 1), (2, 7, 1, 0, 0, 4), (6, 5, 4, 3, 2, 1, 0))


def boxes_in(tree):
    """How many boxes there are in a tree."""
    word = tree[0]
    if word == "box":
        return 1 + boxes_in(tree[1])
    if word == "some":
        return boxes_in(tree[1])
    if word in ("tuple", "record"):
        return sum(boxes_in(part) for part in tree[-1])
    return 0


def blocks_left(events):
    """The sizes by the addresses of the blocks that are still allocated after some events; none is released twice."""
    left = {}
    for word, path, address, *size in events:
        assert isinstance(path, tuple)
        if word == "allocate":
            assert all(cell not in range(begin, begin + many) for begin, many in left.items()
                       for cell in range(address, address + size[0])), events
            left[address] = size[0]
        else:
            assert word == "release"
            del left[address]
    return left


class PromiseCase(unittest.TestCase):
    def accepted(self, program):
        self.assertIsNone(check_kinds(program))
        self.assertIsNone(check_program(program))
        return program

    def keep(self, program, arguments=(), limit=2000, schedules=SCHEDULES):
        """Check what must hold of the runs of an accepted program, and return the logs of the plain run."""
        before = copy.deepcopy((program, arguments, schedules))
        told = meaning(program, arguments, limit)
        self.assertEqual([path for path, _, _ in told], sorted(path for path, _, _ in told))
        for schedule in schedules:
            logs = run_memory(program, arguments, schedule, limit)
            self.check_logs(logs, told)
            self.assertEqual(watch(program, arguments, schedule, limit), (None, logs))
            self.check_blocks(logs, trace_memory(program, arguments, schedule, limit))
            if all(ending != RUNNING for _, ending, _ in told):
                # No thread needs more instructions than the limit says, so these turns are enough for all of them.
                self.assertEqual(run_memory(program, arguments, schedule, limit * len(told)), told)
        self.assertEqual((program, arguments, schedules), before)
        return told

    def check_logs(self, logs, told):
        """Check the logs of a run against those of the plain run."""
        self.assertIs(type(logs), tuple)
        self.assertEqual([path for path, _, _ in logs], sorted(path for path, _, _ in logs))
        known = {path: (ending, printed) for path, ending, printed in told}
        for path, ending, printed in logs:
            self.assertIs(type(printed), tuple)
            self.assertEqual(known[path][1][:len(printed)], printed)
            if ending != RUNNING:
                self.assertEqual(known[path], (ending, printed))
        if all(ending != RUNNING for _, ending, _ in logs):
            self.assertEqual(logs, told)

    def check_blocks(self, logs, events):
        """Check which blocks are left after a run."""
        self.assertIs(type(events), tuple)
        self.assertEqual(events[0][:2], ("allocate", ()))
        left = blocks_left(events)
        if all(ending[0] == "returned" for _, ending, _ in logs):
            self.assertEqual(len(left), boxes_in(logs[0][1][1]))
