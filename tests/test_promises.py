"""Sections 46 to 49 for random programs that are accepted, under many schedules and limits."""

import random
import unittest

from forklent.machine import run_memory, trace_memory
from forklent.meaning import meaning
from forklent.papers import judge, paper
from generating import random_arguments, random_program
from promises import RUNNING, PromiseCase


class TestRandomPrograms(PromiseCase):
    def test_runs(self):
        threads = 0
        for seed in range(120):
            program = self.accepted(random_program(seed))
            arguments = random_arguments(program, seed)
            source = random.Random(seed)
            for limit in (0, source.randint(1, 60), 300):
                schedules = [tuple(source.randrange(9) for _ in range(source.randrange(12))) for _ in range(3)]
                threads += len(self.keep(program, arguments, limit, schedules)) - 1
        self.assertGreater(threads, 100)

    def test_papers(self):
        for seed in range(500, 530):
            program = self.accepted(random_program(seed))
            self.assertIs(judge(program, paper(program)), True)

    def test_a_run_only_goes_on(self):
        # With more turns a run has the same logs and more.
        for seed in range(700, 715):
            program = self.accepted(random_program(seed))
            arguments = random_arguments(program, seed)
            source = random.Random(seed)
            schedule = tuple(source.randrange(5) for _ in range(7))
            before, events = run_memory(program, arguments, schedule, 0), ()
            for limit in range(1, 80):
                logs = run_memory(program, arguments, schedule, limit)
                known = {path: (ending, printed) for path, ending, printed in logs}
                for path, ending, printed in before:
                    self.assertEqual(known[path][1][:len(printed)], printed)
                    if ending != RUNNING:
                        self.assertEqual(known[path], (ending, printed))
                self.assertLessEqual(len(logs) - len(before), 1)
                more = trace_memory(program, arguments, schedule, limit)
                self.assertEqual(more[:len(events)], events)
                before, events = logs, more

    def test_a_larger_limit_only_goes_on(self):
        for seed in range(720, 735):
            program = self.accepted(random_program(seed))
            arguments = random_arguments(program, seed)
            before = meaning(program, arguments, 0)
            for limit in range(1, 60):
                logs = meaning(program, arguments, limit)
                self.check_logs(before, logs)
                before = logs


if __name__ == "__main__":
    unittest.main()
