import copy
import unittest

from building import (
    BOOL, BOX, EXCLUSIVE, INT, SHARED, TASK, TRUE, UNIT, at, box, call, do, give, items, join, lend, let, main, maybe,
    num, of, op, seize, show, spawn, store, use,
)
from forklent.checker import check_program
from forklent.kinding import check_kinds
from forklent.machine import run_memory, watch
from generating import random_arguments, random_program
from promises import ADD, EXAMPLE, EXCHANGED, FALL, NOTHING, ONE, RUNNING, PromiseCase

DONE = ("returned", NOTHING)
SET = ("set", (("e", EXCLUSIVE),), UNIT, (), (store(at("e", "^"), num(9)),))
SEE = ("see", (("s", SHARED),), INT, (), (give(use("s", "^")),))
LIFT = ("lift", (("e", ("exclusive", maybe(INT))),), INT, (), (give(use("e", "^", "?")),))


class Case(unittest.TestCase):
    def refused(self, *block, functions=(), records=(), reason=None, **more):
        program = (records, (*functions, main(*block, **more)))
        self.assertIsNone(check_kinds(program))
        found = check_program(program)
        self.assertIsNotNone(found)
        if reason is not None:
            self.assertEqual(found[1], reason)
        return program

    def expect(self, verdict, turns, program, schedule=(0,), logs=None, arguments=()):
        """The verdict comes with this turn, and not before; the logs are those of that turn."""
        before = copy.deepcopy((program, arguments, schedule))
        for limit in range(turns):
            self.assertEqual(watch(program, arguments, schedule, limit)[0], None, limit)
        found = watch(program, arguments, schedule, turns)
        self.assertIs(type(found), tuple)
        self.assertEqual(found[0], verdict)
        if logs is not None:
            self.assertEqual(found[1], logs)
        # The run ends with this turn.
        for limit in (turns + 1, turns + 2, turns + 100):
            self.assertEqual(watch(program, arguments, schedule, limit), found)
        self.assertEqual((program, arguments, schedule), before)

    def fine(self, program, schedule=(0,), logs=None, limit=500):
        found = watch(program, (), schedule, limit)
        self.assertIsNone(found[0])
        if logs is not None:
            self.assertEqual(found[1], logs)


class TestGone(Case):
    GONE = ("gone", ())

    def test_the_way_through_a_box_that_was_moved(self):
        # set, make, let, move, drop, and then the instruction in question.
        begin = (let("x", ("box", num(1))), do(use("x")))
        logs = (((), RUNNING, ()),)
        for statement in (show(use("x", "^")), do(lend("x", "^")), do(seize("x", "^"))):
            self.expect(self.GONE, 6, self.refused(*begin, statement, reason="moved"), logs=logs)
        for statement in (store(at("x", "^"), num(2)), do(("swap", at("x", "^"), num(2)))):
            self.expect(self.GONE, 7, self.refused(*begin, statement, reason="moved"), logs=logs)
        program = self.refused(let("x", ("box", ("none", INT))), do(use("x")), do(("is", at("x", "^"))))
        self.expect(self.GONE, 6, program)

    def test_a_later_part_of_what_is_in_a_box_that_was_moved(self):
        # The cell behind the one with the number 0 belongs to main's own block.
        program = self.refused(
            let("x", ("box", ("tuple", (num(1), num(2), num(3))))), do(use("x")), do(lend("x", "^", 2)))
        # Three times set, make, make, let, move, drop, borrow.
        self.expect(self.GONE, 9, program)
        program = self.refused(
            let("x", ("box", ("tuple", (num(1), num(2), num(3))))), do(use("x")), show(use("x", "^", 1)))
        self.expect(self.GONE, 9, program)

    def test_a_box_that_is_freed_twice(self):
        program = self.refused(let("x", ("box", num(1))), show(("unbox", use("x"))), show(("unbox", use("x"))))
        # set, make, let, move, unbox, print, move, unbox.
        self.expect(self.GONE, 8, program, logs=(((), RUNNING, (1,)),))

    def test_a_box_of_several_cells_that_is_freed_twice(self):
        pair = ("tuple", (num(1), num(2)))
        program = self.refused(let("x", ("box", pair)), do(("unbox", use("x"))), do(("unbox", use("x"))))
        self.expect(self.GONE, 10, program)

    def test_a_task_that_is_joined_twice(self):
        program = self.refused(
            let("t", spawn("one")), show(join(use("t"))), show(join(use("t"))), functions=(ONE,), reason="moved")
        # spawn, let, move, four of the thread, join, print, move, join.
        self.expect(self.GONE, 11, program, logs=(((), RUNNING, (1,)), ((0,), ("returned", num(1)), (1,))))

    def test_a_borrow_that_was_moved(self):
        program = self.refused(let("n", num(1)), let("r", seize("n")), let("q", use("r")), show(use("r", "^")))
        # set, let, borrow, let, move, let, copy.
        self.expect(self.GONE, 7, program)
        program = self.refused(let("n", num(1)), let("r", seize("n")), let("q", use("r")), do(lend("r", "^")))
        self.expect(self.GONE, 7, program)

    def test_what_was_moved_can_be_dropped_moved_and_replaced(self):
        self.fine(self.refused(
            let("x", ("box", num(1))), let("t", spawn("one")), do(use("x")), do(use("x")), do(use("t")), do(use("t")),
            do(("swap", at("x"), ("box", num(2)))), do(lend("x", "^")), functions=(ONE,)),
            logs=(((), DONE, ()), ((0,), ("returned", num(1)), (1,))))

    def test_a_variable_of_a_call_that_has_ended(self):
        leak = ("leak", (), SHARED, (), (let("n", num(5)), give(lend("n"))))
        program = self.refused(let("r", call("leak")), show(use("r", "^")), functions=(leak,), reason="dead")
        # call, set, let, borrow, drop, leave, let, copy.
        self.expect(self.GONE, 8, program, logs=(((), RUNNING, ()),))

    def test_a_borrow_through_it_reads_nothing_of_it(self):
        leak = ("leak", (), ("shared", items(INT, INT)), (), (
            let("n", ("tuple", (num(5), num(6)))), give(lend("n"))))
        program = self.refused(let("r", call("leak")), let("q", lend("r", "^", 1)), functions=(leak,), reason="dead")
        self.fine(program, logs=(((), DONE, ()),))
        program = self.refused(let("r", call("leak")), let("q", lend("r", "^", 1)), show(use("q", "^")),
            functions=(leak,))
        # call, set, set, make, let, borrow, drop, leave, let, borrow, let, copy.
        self.expect(self.GONE, 12, program)

    def test_the_content_of_a_box_that_was_freed(self):
        for statement, turns in ((show(use("r", "^")), 8), (do(lend("r", "^")), None)):
            program = self.refused(
                let("x", ("box", num(1))), let("r", lend("x", "^")), do(use("x")), statement, reason="dead")
            # set, make, let, borrow, let, move, drop.
            if turns is None:
                self.fine(program)
            else:
                self.expect(self.GONE, turns, program)
        for statement in (store(at("r", "^"), num(3)), do(("swap", at("r", "^"), num(3)))):
            program = self.refused(let("x", ("box", num(1))), let("r", seize("x", "^")), do(use("x")), statement)
            self.expect(self.GONE, 9, program)

    def test_is_and_payloads_of_what_was_freed(self):
        begin = (let("x", ("box", ("some", num(1)))), let("r", lend("x", "^")), do(use("x")))
        for statement in (do(("is", at("r", "^"))), do(use("r", "^", "?")), do(lend("r", "^", "?")), do(use("r", "^"))):
            # set, make, make, let, borrow, let, move, drop.
            self.expect(self.GONE, 9, self.refused(*begin, statement))

    def test_a_value_that_a_thread_would_return(self):
        pair = ("tuple", (("box", num(1)), num(2)))
        block = (let("p", pair), do(use("p", 0)), give(use("p")))
        program = self.refused(*block, result=items(BOX, INT), reason="moved")
        # set, make, set, make, let, move, drop, move, drop, leave.
        self.expect(self.GONE, 10, program, logs=(((), RUNNING, ()),))
        work = ("work", (), items(BOX, INT), (), block)
        program = self.refused(show(num(7)), let("t", spawn("work")), functions=(work,))
        # set, print, spawn, let, and then the thread.
        self.expect(("gone", (0,)), 14, program, logs=(((), RUNNING, (7,)), ((0,), RUNNING, ())))

    def test_a_value_that_only_a_call_returns(self):
        work = ("work", (), items(BOX, INT), (), (
            let("p", ("tuple", (("box", num(1)), num(2)))), do(use("p", 0)), give(use("p"))))
        program = self.refused(let("q", call("work")), show(use("q", 1)), functions=(work,))
        self.fine(program, logs=(((), DONE, (2,)),))

    def test_a_box_in_a_box_that_was_moved_out_of_the_result(self):
        program = self.refused(
            let("m", ("some", ("box", num(2)))), do(use("m", "?")), give(("box", use("m"))), result=box(maybe(BOX)))
        # set, make, make, let, move, drop, move, make, drop, leave.
        self.expect(self.GONE, 10, program, logs=(((), RUNNING, ()),))

    def test_an_empty_payload_has_no_box(self):
        program = self.refused(
            let("x", ("box", num(1))), do(use("x")), do(use("x")), give(("tuple", (("none", BOX), num(1)))),
            result=items(maybe(BOX), INT))
        self.fine(program, logs=(((), ("returned", ("tuple", (("none",), num(1)))), ()),))

    def test_a_thread_is_the_one_that_is_told(self):
        work = ("work", (("x", BOX),), UNIT, (), (do(use("x")), show(num(4)), show(use("x", "^"))))
        program = self.refused(let("t", spawn("work", ("box", num(1)))), functions=(work,))
        # main: set, make, spawn, let; the thread: move, drop, set, print, copy.
        logs = (((), RUNNING, ()), ((0,), RUNNING, (4,)))
        self.expect(("gone", (0,)), 9, program, logs=logs)
        self.expect(("gone", (0,)), 8, program, schedule=(1,), logs=logs)

    def test_an_empty_maybe_before_it(self):
        # The thread stops before the way comes to the box.
        program = self.refused(
            let("m", ("some", ("box", num(1)))), do(use("m", "?")), store(at("m"), ("none", BOX)), do(use("m", "?")),
            do(use("m", "?")), show(use("m", "?", "^")))
        self.fine(program, logs=(((), ("stopped", "empty"), ()),))


class TestDropsOfRefusedPrograms(Case):
    def test_a_maybe_that_is_empty_has_nothing_to_drop(self):
        # The borrow r leads to the payload of m, where a box is put while m is empty.
        program = self.refused(
            let("m", ("some", ("box", num(1)))), let("r", seize("m", "?")), store(at("m"), ("none", BOX)),
            store(at("r", "^"), ("box", num(2))), let("k", ("box", num(3))), show(use("k", "^")), reason="dead")
        self.fine(program, logs=(((), DONE, (3,)),))
        program = self.refused(
            let("m", ("some", ("box", num(1)))), let("r", seize("m", "?")), store(at("m"), ("none", BOX)),
            store(at("r", "^"), ("box", num(2))), give(use("m")), result=maybe(BOX))
        self.fine(program, logs=(((), ("returned", ("none",)), ()),))


    def test_what_is_put_into_an_empty_maybe_stays_when_it_is_dropped(self):
        # A borrow that outlives m leads to the content of the box in it.
        program = self.refused(
            let("q", ("none", SHARED)),
            ("if", TRUE, (
                let("m", ("some", ("box", num(1)))), let("r", seize("m", "?")), store(at("m"), ("none", BOX)),
                store(at("r", "^"), ("box", num(2))), store(at("q"), ("some", lend("r", "^", "^")))), ()),
            show(use("q", "?", "^")), reason="dead")
        self.fine(program, logs=(((), DONE, (2,)),))

    def test_the_cells_of_what_was_dropped_or_moved_are_0(self):
        # The block of main is still there, so a borrow of a variable that has ended leads to its cells.
        program = self.refused(
            let("q", ("none", SHARED)), ("if", TRUE, (let("n", num(5)), store(at("q"), ("some", lend("n")))), ()),
            show(use("q", "?", "^")), reason="dead")
        self.fine(program, logs=(((), DONE, (0,)),))
        pair = ("tuple", (num(5), ("box", num(6))))
        program = self.refused(let("p", pair), do(use("p")), show(use("p", 0)), reason="moved")
        self.fine(program, logs=(((), DONE, (0,)),))

    def test_a_swap_and_a_store_of_what_was_moved(self):
        pair = ("tuple", (num(5), ("some", ("box", num(6)))))
        program = self.refused(let("p", pair), do(use("p")), give(("swap", at("p"), pair)),
            result=items(INT, maybe(BOX)))
        self.fine(program, logs=(((), ("returned", ("tuple", (num(0), ("none",)))), ()),))


class TestRunsOfWhichNothingIsSaid(Case):
    """A borrow leads to a cell that was released and allocated again. Such a run comes to an end all the same."""

    ROW = ("Row", (("n", INT), ("more", maybe(box(of("Row"))))))

    def row_that_contains_itself(self, *block, **more):
        def program(address):
            return self.refused(
                let("x", ("box", ("tuple", (num(1), num(2), num(3))))), let("p", seize("x", "^", 1)),
                let("q", seize("x", "^", 2)), do(use("x")), let("y",
                ("box", ("record", "Row", (num(4), ("none", box(of("Row"))))))),
                store(at("p", "^"), num(1)), store(at("q", "^"), num(address)), *block, records=(self.ROW,), **more)
        return [program(address) for address in range(1, 60)]

    def test_a_drop(self):
        for program in self.row_that_contains_itself(show(num(7))):
            verdict, logs = watch(program, (), (), 500)
            self.assertIn(verdict, (None, ("gone", ())))
            self.assertEqual(logs[0][2], (7,))

    def test_a_result(self):
        for program in self.row_that_contains_itself(give(use("y")), result=box(of("Row"))):
            self.assertIn(watch(program, (), (), 500)[0], (None, ("gone", ())))

    def test_a_task(self):
        # The number in a task's cell is changed to that of a thread that is not there, or has another result.
        for number in range(0, 6):
            program = self.refused(
                let("r", call("leak")), let("t", call("start", use("r"))), show(join(use("t"))),
                functions=(
                    ("leak", (), EXCLUSIVE, (), (let("n", num(5)), give(seize("n")))), ONE,
                    ("start", (("r", EXCLUSIVE),), TASK, (), (
                        let("t", spawn("one")), store(at("r", "^"), num(number)), give(use("t"))))))
            self.assertIn(watch(program, (), (), 500)[0], (None, ("gone", ())))


class TestRace(Case):
    def test_main_reads_what_a_thread_writes(self):
        program = self.refused(
            let("n", num(1)), let("t", spawn("set", seize("n"))), show(use("n")), functions=(SET,), reason="busy")
        # main: set, let, borrow, spawn, let, copy, print; the thread: set, store, drop, set, drop, leave.
        # main first: then it is the thread whose store shows it, when main waits at its drop.
        self.expect(("race", (0,)), 9, program, logs=(((), RUNNING, (1,)), ((0,), RUNNING, ())))
        # The thread first, up to its end but one.
        self.expect(("race", ()), 11, program, schedule=(0, 0, 0, 0) + (1,) * 5 + (0,) * 20)

    def test_main_writes_what_a_thread_reads(self):
        program = self.refused(
            let("n", num(1)), let("t", spawn("see", lend("n"))), store(at("n"), num(2)), functions=(SEE,),
            reason="busy")
        # main: set, let, borrow, spawn, let, set, store; the thread: copy, drop, leave.
        self.expect(("race", (0,)), 8, program)
        self.expect(("race", ()), 10, program, schedule=(0,) * 4 + (1,) * 3 + (0,) * 9)

    def test_two_that_write(self):
        program = self.refused(
            let("n", num(1)), let("t", spawn("set", seize("n"))), store(at("n"), num(2)), functions=(SET,),
            reason="busy")
        self.expect(("race", (0,)), 9, program)

    def test_two_that_read(self):
        # n is read by all three, and only a problem of another kind has the program refused.
        program = self.refused(
            let("n", num(1)), let("x", ("box", num(1))), let("t", spawn("see", lend("n"))),
            let("u", spawn("see", lend("n"))),
            show(use("n")), do(use("x")), do(use("x")), functions=(SEE,), reason="moved")
        for schedule in ((0,), (1,), (2,), (0, 1, 2), (2, 1)):
            self.fine(program, schedule)

    def test_what_is_ordered_by_a_spawn_and_a_join(self):
        program = self.refused(
            let("n", num(1)), let("x", ("box", num(1))), store(at("n"), num(2)),
            show(join(spawn("add", seize("n"), num(3)))),
            store(at("n"), op("*", use("n"), num(2))), do(spawn("add", seize("n"), num(1))), show(use("n")),
            do(use("x")), do(use("x")), functions=(ADD,), reason="moved")
        for schedule in ((0,), (1,), (0, 1)):
            self.fine(program, schedule, logs=(
                ((), DONE, (5, 11)), ((0,), ("returned", num(5)), ()), ((1,), ("returned", num(11)), ())))

    def test_what_a_parent_does_after_the_spawn_is_not_ordered_before_the_thread(self):
        program = self.refused(
            let("n", num(1)), let("r", lend("n")), store(at("n"), num(2)), let("t", spawn("see", use("r"))),
            functions=(SEE,), reason="dead")
        self.fine(program)
        program = self.refused(
            let("n", num(1)), let("t", spawn("see", lend("n"))), let("k", num(5)), store(at("n"), num(2)),
            functions=(SEE,))
        # main: set, let, borrow, spawn, let, set, let, set, store, drop of k; the thread: copy.
        self.expect(("race", (0,)), 11, program)

    def test_two_threads_of_one_parent(self):
        # The borrow of the first thread is dead when the second one is made, but both threads have it.
        program = self.refused(
            let("n", num(1)), let("t", spawn("set", seize("n"))), let("u", spawn("set", seize("n"))), functions=(SET,),
            reason="busy")
        # main: set, let, borrow, spawn, let, borrow, spawn, let; each thread: set, store.
        self.expect(("race", (0,)), 12, program, schedule=(0,) * 8 + (1,) * 2 + (0,) * 10)
        self.expect(("race", (1,)), 12, program, schedule=(0,) * 8 + (0,) * 2 + (1,) * 10)

    def test_a_chain_of_waiting_threads(self):
        # main waits for the first thread, which has waited for the second one.
        outer = ("outer", (("e", EXCLUSIVE),), UNIT, (), (do(join(spawn("set", use("e")))),))
        program = self.refused(
            let("n", num(1)), let("x", ("box", num(1))), do(spawn("outer", seize("n"))), show(use("n")), do(use("x")),
            do(use("x")), functions=(SET, outer), reason="moved")
        for schedule in ((0,), (1,), (2, 1)):
            self.fine(program, schedule)
        loose = ("loose", (("e", EXCLUSIVE),), ("task", UNIT), (), (give(spawn("set", use("e"))),))
        program = self.refused(
            let("n", num(1)), let("t", call("loose", seize("n"))), show(use("n")), functions=(SET, loose),
            reason="escape")
        # set, let, borrow, call, move, spawn, drop, leave, let, copy, print; the thread: set, store.
        self.expect(("race", (0,)), 13, program)

    def test_what_a_task_in_a_dropped_value_did_is_ordered_before_the_drop(self):
        program = self.refused(
            let("x", ("box", num(1))), let("p", ("tuple", (num(1), ("none", ("task", UNIT))))),
            store(at("p", 1), ("some", spawn("set", seize("p", 0)))), do(use("x")), do(use("x")), functions=(SET,),
            reason="moved")
        for schedule in ((0,), (1,)):
            self.fine(program, schedule)

    def test_a_drop(self):
        program = self.refused(
            let("m", ("none", TASK)), ("if", TRUE, (let("n", num(1)),
            store(at("m"), ("some", spawn("see", lend("n"))))), ()),
            functions=(SEE,), reason="busy")
        # set, let, set, test, set, let, borrow, spawn, make, store, drop of n, jump; the thread: copy.
        self.expect(("race", (0,)), 13, program)
        self.expect(("race", ()), 12, program, schedule=(0,) * 10 + (1, 0, 0))

    def test_a_box_that_is_freed(self):
        # main only reads the content of the box, but its block is released.
        for last, turns in (((do(use("x")),), 9), ((show(("unbox", use("x"))),), 9)):
            program = self.refused(
                let("x", ("box", num(1))), let("t", spawn("see", lend("x", "^"))), *last, functions=(SEE,),
                reason="busy")
            # set, make, let, borrow, spawn, let, the copy of the thread, move, drop or unbox.
            self.expect(("race", ()), turns, program, schedule=(0,) * 5 + (1,) + (0,) * 9)

    def test_the_box_itself_is_another_cell_than_its_content(self):
        program = self.refused(
            let("x", ("box", num(1))), let("t", spawn("set", seize("x", "^"))), let("y", use("x")), functions=(SET,),
            reason="busy")
        # main: set, make, let, borrow, spawn, let, move, let, drop of y; the thread: set, store.
        self.expect(("gone", (0,)), 11, program)
        # If the thread stores first, then main's move and let are no race yet, but the drop of y reads the content.
        self.expect(("race", ()), 11, program, schedule=(0,) * 6 + (1, 1) + (0,) * 9)

    def test_the_first_cell_of_a_maybe(self):
        clear = ("clear", (("e", ("exclusive", maybe(INT))),), UNIT, (), (store(at("e", "^"), ("none", INT)),))
        program = self.refused(
            let("m", ("some", num(1))), let("t", spawn("clear", seize("m"))), do(("is", at("m"))), functions=(clear,))
        # set, make, let, borrow, spawn, let; the thread: set, store; main: is.
        self.expect(("race", ()), 9, program, schedule=(0,) * 5 + (1, 1) + (0,) * 9)
        program = self.refused(
            let("m", ("some", num(1))), let("t", spawn("clear", seize("m"))), do(lend("m", "?")), functions=(clear,))
        # Going along the place reads the first cell. It is 0 now, so main stops with the same instruction.
        self.expect(("race", ()), 9, program, schedule=(0,) * 5 + (1, 1) + (0,) * 9,
                    logs=(((), ("stopped", "empty"), ()), ((0,), RUNNING, ())))

    def test_the_payload_and_the_first_cell_are_two_cells(self):
        program = self.refused(
            let("m", ("some", num(1))), let("t", spawn("set", seize("m", "?"))), do(("is", at("m"))), functions=(SET,),
            reason="busy")
        for schedule in ((0,), (1,), (0,) * 6 + (1,) * 9):
            self.fine(program, schedule)

    def test_a_borrow_reads_nothing_of_the_place(self):
        program = self.refused(
            let("n", num(1)), let("t", spawn("set", seize("n"))), do(lend("n")), do(seize("n")), functions=(SET,),
            reason="busy")
        for schedule in ((0,), (1,)):
            self.fine(program, schedule)

    def test_the_box_on_the_way(self):
        swap = ("swap", (("e", ("exclusive", BOX)),), UNIT, (), (do(("swap", at("e", "^"), ("box", num(2)))),))
        program = self.refused(
            let("x", ("box", num(1))), let("t", spawn("swap", seize("x"))), do(lend("x", "^")), functions=(swap,))
        # set, make, let, borrow, spawn, let; the thread: set, make, swap; main: borrow.
        self.expect(("race", ()), 10, program, schedule=(0,) * 5 + (1, 1, 1) + (0,) * 9)

    def test_the_thread_that_stops_with_the_race(self):
        program = self.refused(
            let("m", ("some", num(1))), let("t", spawn("lift", seize("m"))), store(at("m"), ("none", INT)),
            functions=(LIFT,))
        # main: set, make, let, borrow, spawn, let, set, store; the thread: copy.
        self.expect(("race", (0,)), 9, program, logs=(((), RUNNING, ()), ((0,), ("stopped", "empty"), ())))

    def test_gone_comes_first_if_both_are_due(self):
        look = ("look", (("e", ("exclusive", BOX)),), INT, (), (give(use("e", "^", "^")),))
        program = self.refused(
            let("x", ("box", num(1))), let("t", spawn("look", seize("x"))), let("y", use("x")), functions=(look,),
            reason="busy")
        # main: set, make, let, borrow, spawn, let, move; the thread reads x, which main wrote, and x is 0.
        self.expect(("gone", (0,)), 8, program, schedule=(0,) * 7 + (1,))

    def test_a_cell_that_is_allocated_again_is_another_cell(self):
        program = self.refused(
            let("x", ("box", num(1))), let("t", spawn("one")), let("u", spawn("one")), do(use("x")), do(use("x")),
            functions=(ONE,), reason="moved")
        # The first thread ends before the second one is started, and its block is used again.
        self.fine(program, schedule=(0,) * 4 + (1,) * 4 + (0, 0, 1, 1, 1, 1) + (0,) * 9)
        self.fine(program, schedule=(1,))

    def test_the_result_of_a_thread(self):
        # What stands in a box of the result is ordered by the join.
        work = ("work", (), BOX, (), (let("x", ("box", num(1))), store(at("x", "^"), num(2)), give(use("x"))))
        program = self.refused(
            let("z", ("box", num(1))), let("x", join(spawn("work"))), store(at("x", "^"), num(3)),
            show(("unbox", use("x"))),
            do(use("z")), do(use("z")), functions=(work,), reason="moved")
        for schedule in ((0,), (1,)):
            self.fine(program, schedule)


class TestAnyProgram(Case):
    def test_refused_programs_that_go_well(self):
        # Nothing goes wrong on the branch that is taken.
        program = self.refused(
            let("x", ("box", num(1))), ("if", ("bool", False), (do(use("x")), do(use("x"))), ()), show(use("x", "^")))
        self.fine(program, logs=(((), DONE, (1,)),))

    def test_a_standstill_is_no_verdict(self):
        # A thread that waits for a task is waited for, and the limit alone ends the other one.
        program = self.refused(
            let("x", ("box", num(1))), let("t", spawn("spin")), do(join(use("t"))), do(use("x")), do(use("x")),
            functions=(("spin", (), INT, (), (("while", TRUE, ()),)),))
        self.fine(program, logs=(((), RUNNING, ()), ((0,), RUNNING, ())))

    def test_limits_and_stops(self):
        program = self.refused(
            show(call("fall")), let("x", ("box", num(1))), do(use("x")), do(use("x")), functions=(FALL,))
        self.assertEqual(watch(program, (), (), 0), (None, (((), RUNNING, ()),)))
        self.fine(program, logs=(((), ("stopped", "no value"), (7,)),))

    def test_arguments(self):
        program = self.refused(
            let("x", ("box", use("n"))), ("if", use("b"), (do(use("x")),), ()), show(use("x", "^")),
            parameters=(("n", INT), ("b", BOOL)))
        self.assertEqual(watch(program, (7, False), (), 100), (None, (((), DONE, (7,)),)))
        # copy, make, let, copy, test, move, drop, jump, copy.
        self.expect(("gone", ()), 9, program, arguments=(7, True))


class TestExchangedExample(Case):
    def test_the_problem_and_the_race(self):
        self.assertIsNone(check_kinds(EXCHANGED))
        # The point 12 copies the first item of x.
        self.assertEqual(check_program(EXCHANGED), ("main", "busy", tuple(range(13))))
        before = ((1,), RUNNING, ())
        # 12 instructions of main, then copy, copy, op, store of the first thread, and copy of main.
        self.expect(("race", ()), 17, EXCHANGED, schedule=(0,) * 12 + (1,) * 4 + (0,), arguments=(5,),
                    logs=(((), RUNNING, ()), ((0,), RUNNING, ()), before))
        # main first: copy, print, move, and at the join it waits; the thread reads what main read, and writes it.
        self.expect(("race", (0,)), 19, EXCHANGED, arguments=(5,),
                    logs=(((), RUNNING, (5,)), ((0,), RUNNING, ()), before))


class TestAccepted(PromiseCase):
    def test_the_example(self):
        program = self.accepted(EXAMPLE)
        for schedule in ((), (0,), (1,), (2, 0), (0, 1, 2, 3)):
            for limit in range(45):
                found = watch(program, (5,), schedule, limit)
                self.assertEqual(found, (None, run_memory(program, (5,), schedule, limit)))

    def test_random_programs(self):
        for seed in range(400, 440):
            program = random_program(seed)
            arguments = random_arguments(program, seed)
            for schedule in ((0,), (1,), (3, 0, 2)):
                found = watch(program, arguments, schedule, 150)
                self.assertEqual(found, (None, run_memory(program, arguments, schedule, 150)))


if __name__ == "__main__":
    unittest.main()
