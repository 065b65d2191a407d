import copy
import unittest

from building import (
    BOOL, BOX, EXCLUSIVE, INT, SHARED, TASK, TRUE, UNIT, at, box, call, do, give, items, join, lend, let, main, maybe,
    num, of, op, seize, show, spawn, store, use,
)
from forklent.errors import ForkError, Refused
from forklent.kinding import check_kinds
from forklent.meaning import meaning
from promises import ADD, EXAMPLE, FALL, NOTHING, ONE, PAIR, RUNNING, PromiseCase

EMPTY = ("stopped", "empty")
DEEP = ("stopped", "deep")
ROW = ("Row", (("n", INT), ("more", maybe(box(of("Row"))))))
# It stops its thread if it is given an empty maybe.
OPEN = ("open", (("m", maybe(INT)),), INT, (), (give(use("m", "?")),))


class Case(PromiseCase):
    def logs_of(self, *block, functions=(), records=(), parameters=(), result=UNIT, arguments=(), limit=2000):
        """The logs of an accepted program, for which the promises hold."""
        program = self.accepted((records, (*functions, main(*block, parameters=parameters, result=result))))
        return self.keep(program, arguments, limit)

    def result_of(self, *block, **more):
        """The ending of main, if it is the only thread and prints nothing."""
        (path, ending, printed), = self.logs_of(*block, **more)
        self.assertEqual((path, printed), ((), ()))
        return ending

    def printed_by(self, *block, **more):
        """What main prints, if it is the only thread and returns unit."""
        (path, ending, printed), = self.logs_of(*block, **more)
        self.assertEqual((path, ending), ((), ("returned", NOTHING)))
        return printed


class TestExample(Case):
    def test_every_number(self):
        for number in (5, 0, -3):
            logs = self.keep(self.accepted(EXAMPLE), (number,))
            self.assertEqual(logs, (
                ((), ("returned", num(12)), (number + 1, number + 1)), ((0,), ("returned", num(number + 1)), ()),
                ((1,), ("returned", num(12)), ())))


class TestValues(Case):
    def test_literals_and_arguments(self):
        self.assertEqual(self.result_of(give(num(-5)), result=INT), ("returned", num(-5)))
        self.assertEqual(self.result_of(), ("returned", NOTHING))
        self.assertEqual(
            self.result_of(give(("tuple", (use("a"), use("b"), NOTHING))), parameters=(("a", BOOL), ("b", INT)),
                           result=items(BOOL, INT, UNIT), arguments=(True, 1)),
            ("returned", ("tuple", (TRUE, num(1), NOTHING))))

    def test_an_empty_maybe_at_the_end_of_a_frame(self):
        for kind in (INT, BOX, items(INT, INT, INT)):
            self.assertEqual(self.result_of(give(("none", kind)), result=maybe(kind)), ("returned", ("none",)))
        late = ("late", (), maybe(items(INT, INT)), (), (give(("none", items(INT, INT))),))
        self.assertEqual(
            self.printed_by(let("x", ("box", num(3))), let("m", call("late")), show(use("x", "^")),
                functions=(late,)), (3,))

    def test_trees_of_all_shapes(self):
        kind = items(maybe(INT), maybe(box(BOOL)), of("Pair"), maybe(items(INT, UNIT)))
        self.assertEqual(
            self.result_of(
                give(("tuple", (("none", INT), ("some", ("box", TRUE)), ("record", "Pair", (num(1), ("box", num(2)))),
                                ("some", ("tuple", (num(3), NOTHING)))))), records=(PAIR,), result=kind),
            ("returned", ("tuple", (
                ("none",), ("some", ("box", TRUE)), ("record", "Pair", (num(1), ("box", num(2)))),
                ("some", ("tuple", (num(3), NOTHING)))))))

    def test_the_range_of_integers(self):
        least, most = -2147483648, 2147483647
        for sign, left, right, wanted in (
                ("+", most, 1, least), ("+", most, most, -2), ("+", least, -1, most), ("+", least, least, 0),
                ("+", -5, 3, -2), ("-", least, 1, most), ("-", most, -1, least), ("-", 0, least, least),
                ("-", 3, 5, -2), ("-", most, least, -1), ("*", most, 2, -2), ("*", least, -1, least),
                ("*", least, least, 0), ("*", most, most, 1), ("*", 65536, 65536, 0), ("*", 65536, 32768, least),
                ("*", -7, 3, -21)):
            expression = op(sign, num(left), num(right))
            self.assertEqual(self.printed_by(show(expression)), (wanted,), expression)
        for sign, left, right, wanted in (
                ("<", least, most, True), ("<", most, least, False), ("<", 4, 4, False), ("<", -1, 0, True),
                ("==", least, least, True), ("==", least, most, False), ("==", 3, 4, False)):
            ending = self.result_of(give(op(sign, num(left), num(right))), result=BOOL)
            self.assertEqual(ending, ("returned", ("bool", wanted)))

    def test_booleans(self):
        for left in (True, False):
            for right in (True, False):
                for sign, wanted in (("and", left and right), ("or", left or right)):
                    ending = self.result_of(
                        give(op(sign, use("a"), use("b"))), parameters=(("a", BOOL), ("b", BOOL)), result=BOOL,
                        arguments=(left, right))
                    self.assertEqual(ending, ("returned", ("bool", wanted)))
            ending = self.result_of(give(("not", ("bool", left))), result=BOOL)
            self.assertEqual(ending, ("returned", ("bool", not left)))

    def test_both_sides_of_an_operation_are_evaluated(self):
        tell = ("tell", (("n", INT), ("b", BOOL)), BOOL, (), (show(use("n")), give(use("b"))))
        for sign, left in (("and", False), ("or", True)):
            printed = self.printed_by(
                do(op(sign, call("tell", num(1), ("bool", left)), call("tell", num(2), TRUE))), functions=(tell,))
            self.assertEqual(printed, (1, 2))

    def test_expressions_are_evaluated_from_the_left_to_the_right(self):
        tell = ("tell", (("n", INT),), INT, (), (show(use("n")), give(use("n"))))
        three = ("three", (("a", INT), ("b", INT), ("c", INT)), INT, (), (give(use("c")),))
        one, two, more = (call("tell", num(number)) for number in (1, 2, 3))
        for expression in (call("three", one, two, more), ("tuple", (one, two, more)),
            op("+", op("*", one, two), more)):
            self.assertEqual(self.printed_by(do(expression), functions=(tell, three)), (1, 2, 3))

    def test_moves_swaps_and_stores_of_values_of_several_cells(self):
        kind = items(INT, maybe(BOX), items(BOX, BOOL))

        def value(number):
            return ("tuple", (num(number), ("some", ("box", num(number + 1))),
                ("tuple", (("box", num(number + 2)), TRUE))))
        ending = self.result_of(
            let("x", value(10)), let("y", value(20)), let("z", ("swap", at("x"), use("y"))),
            store(at("y"), use("z")), store(at("x", 2, 0, "^"), num(0)), give(("tuple", (use("x"), use("y")))),
            result=items(kind, kind))
        self.assertEqual(ending, ("returned", ("tuple", (
            ("tuple", (num(20), ("some", ("box", num(21))), ("tuple", (("box", num(0)), TRUE)))),
            ("tuple", (num(10), ("some", ("box", num(11))), ("tuple", (("box", num(12)), TRUE))))))))

    def test_boxes_in_boxes(self):
        ending = self.result_of(
            let("x", ("box", ("box", ("tuple", (num(1), ("box", num(2))))))),
            let("r", seize("x", "^", "^")), store(at("r", "^", 1, "^"), num(3)),
            let("y", ("unbox", use("x"))), give(("box", ("unbox", use("y")))), result=box(items(INT, BOX)))
        self.assertEqual(ending, ("returned", ("box", ("tuple", (num(1), ("box", num(3)))))))

    def test_what_is_in_a_maybe(self):
        self.assertEqual(
            self.printed_by(
                let("m", ("none", BOX)), ("if", ("is", at("m")), (show(num(1)),), (show(num(2)),)),
                store(at("m"), ("some", ("box", num(3)))), ("if", ("is", at("m")), (show(use("m", "?", "^")),), ()),
                do(use("m", "?")), store(at("m", "?"), ("box", num(4))), show(("swap", at("m", "?", "^"), num(5))),
                show(use("m", "?", "^"))), (2, 3, 4, 5))

    def test_calls_that_give_and_take_values_of_several_cells(self):
        turn = ("turn", (("p", items(INT, BOX)), ("q", of("Pair"))), items(of("Pair"), BOX, INT), (), (
            give(("tuple", (("record", "Pair", (use("p", 0), use("q", "b"))), use("p", 1), use("q", "a")))),))
        ending = self.result_of(
            give(call("turn", ("tuple", (num(1), ("box", num(2)))), ("record", "Pair", (num(3), ("box", num(4)))))),
            functions=(turn,), records=(PAIR,), result=items(of("Pair"), BOX, INT))
        self.assertEqual(ending, ("returned", ("tuple", (
            ("record", "Pair", (num(1), ("box", num(4)))), ("box", num(2)), num(3)))))

    def test_a_long_row_of_boxes(self):
        grow = (
            let("r", ("none", box(of("Row")))), let("i", num(0)),
            ("while", op("<", use("i"), num(90)), (
                store(at("r"), ("some", ("box", ("record", "Row",
                (use("i"), ("swap", at("r"), ("none", box(of("Row")))))))))
                , store(at("i"), op("+", use("i"), num(1))))))
        self.assertEqual(self.printed_by(*grow, records=(ROW,)), ())
        ending = self.result_of(*grow, give(use("r")), records=(ROW,), result=maybe(box(of("Row"))))
        for number in reversed(range(90)):
            self.assertEqual(ending[1][:1] if number == 89 else tree[:1], ("some",))
            tree = (ending[1] if number == 89 else tree)[1]
            self.assertEqual((tree[0], tree[1][:2], tree[1][2][0]), ("box", ("record", "Row"), num(number)))
            tree = tree[1][2][1]
        self.assertEqual(tree, ("none",))


class TestBorrows(Case):
    def test_a_borrow_is_the_place_that_the_borrowed_place_led_to(self):
        self.assertEqual(
            self.printed_by(
                let("x", ("tuple", (num(1), num(2)))), let("r", seize("x", 0)), let("q", seize("r", "^")),
                store(at("r"), seize("x", 1)), store(at("q", "^"), num(5)), store(at("r", "^"), num(6)),
                show(use("x", 0)), show(use("x", 1))), (5, 6))

    def test_borrows_of_callers_and_of_their_callers(self):
        outer = ("outer", (("r", ("exclusive", items(INT, INT))),), INT, (), (
            let("n", num(100)), show(call("add", seize("n"), num(1))), give(call("add", seize("r", "^", 1), use("n")))))
        logs = self.logs_of(
            let("x", ("tuple", (num(1), num(2)))), show(call("outer", seize("x"))), show(use("x", 1)),
            functions=(ADD, outer))
        self.assertEqual(logs, (((), ("returned", NOTHING), (101, 103, 103)),))

    def test_a_borrow_that_a_function_gives_back(self):
        choose = ("choose", (("p", EXCLUSIVE), ("q", EXCLUSIVE), ("b", BOOL)), EXCLUSIVE, ("p", "q"), (
            ("if", use("b"), (give(use("p")),), ()), give(use("q"))))
        for which, wanted in ((True, (9, 2)), (False, (1, 9))):
            printed = self.printed_by(
                let("n", num(1)), let("k", num(2)), let("r", call("choose", seize("n"), seize("k"), ("bool", which))),
                store(at("r", "^"), num(9)), show(use("n")), show(use("k")), functions=(choose,))
            self.assertEqual(printed, wanted)

    def test_shared_borrows_are_copied(self):
        self.assertEqual(
            self.printed_by(
                let("x", ("box", num(4))), let("r", lend("x")), let("p", ("tuple", (use("r"), ("some", use("r"))))),
                let("q", use("p")), show(use("q", 0, "^", "^")), show(use("p", 1, "?", "^", "^"))), (4, 4))

    def test_a_row_that_is_walked_through(self):
        walk = ("walk", (("r", ("exclusive", of("Row"))),), UNIT, (), (
            ("while", ("is", at("r", "^", "more")), (
                store(at("r", "^", "n"), op("*", use("r", "^", "n"), num(10))), show(use("r", "^", "n")),
                store(at("r"), seize("r", "^", "more", "?", "^")))), show(use("r", "^", "n"))))
        row = ("record", "Row", (num(4), ("none", box(of("Row")))))
        for number in (3, 2, 1):
            row = ("record", "Row", (num(number), ("some", ("box", row))))
        program = self.accepted(((ROW,), (walk, main(let("x", row), do(call("walk", seize("x"))),
            show(use("x", "n"))))))
        self.assertEqual(self.keep(program)[0][2], (10, 20, 30, 4, 10))


class TestStopped(Case):
    def test_an_empty_maybe(self):
        for expression in (use("m", "?"), lend("m", "?"), ("swap", at("m", "?"), num(1)), use("e", "^", "?")):
            logs = self.logs_of(
                let("m", ("none", INT)), let("k", ("none", INT)), let("e", seize("k")), show(num(1)), do(expression),
                show(num(2)))
            self.assertEqual(logs, (((), EMPTY, (1,)),), expression)
        logs = self.logs_of(let("m", ("none", INT)), show(num(1)), store(at("m", "?"), num(1)), show(num(2)))
        self.assertEqual(logs, (((), EMPTY, (1,)),))
        logs = self.logs_of(let("m", ("none", maybe(INT))), do(("is", at("m", "?"))))
        self.assertEqual(logs, (((), EMPTY, ()),))

    def test_in_a_call_that_is_open(self):
        logs = self.logs_of(show(call("open", ("none", INT))), functions=(OPEN,))
        self.assertEqual(logs, (((), EMPTY, ()),))

    def test_no_value(self):
        self.assertEqual(self.result_of(result=INT), ("stopped", "no value"))
        logs = self.logs_of(show(call("fall")), show(num(2)), functions=(FALL,))
        self.assertEqual(logs, (((), ("stopped", "no value"), (7,)),))

    def test_sixteen_and_seventeen_open_calls(self):
        down = ("down", (("n", INT),), INT, (), (
            show(use("n")), ("if", op("==", use("n"), num(0)), (give(num(0)),), ()),
            give(op("+", call("down", op("-", use("n"), num(1))), num(1)))))
        # The function main is the first open call.
        for number, ending in ((14, ("returned", num(14))), (15, DEEP)):
            logs = self.logs_of(give(call("down", num(number))), functions=(down,), result=INT)
            self.assertEqual(logs, (((), ending, tuple(range(number, max(-1, number - 15), -1))),))
        # In a thread, the thread's own function is the first one.
        for number, ending in ((15, ("returned", num(15))), (16, DEEP)):
            logs = self.logs_of(let("t", spawn("down", num(number))), show(num(5)), functions=(down,))
            self.assertEqual(logs[1], ((0,), ending, tuple(range(number, max(-1, number - 16), -1))))
            self.assertEqual(logs[0], ((), ("returned", NOTHING) if number == 15 else DEEP, (5,)))

    def test_calls_that_have_ended_do_not_count(self):
        logs = self.logs_of(
            let("i", num(0)), ("while", op("<", use("i"), num(40)), (
                store(at("i"), op("+", use("i"), call("one"))),)), show(use("i")), functions=(ONE,))
        self.assertEqual(logs[0][1], ("returned", NOTHING))

    def test_a_path_of_six_entries_and_one_more(self):
        fork = ("fork", (("n", INT),), INT, (), (
            show(use("n")), ("if", op("==", use("n"), num(0)), (give(num(0)),), ()),
            give(op("+", join(spawn("fork", op("-", use("n"), num(1)))), num(1)))))
        logs = self.logs_of(give(join(spawn("fork", num(5)))), functions=(fork,), result=INT)
        self.assertEqual([path for path, _, _ in logs], [(0,) * many for many in range(7)])
        self.assertEqual(logs[0][1], ("returned", num(5)))
        logs = self.logs_of(give(join(spawn("fork", num(6)))), functions=(fork,), result=INT)
        # The thread with six entries starts none, and all that wait for it stop, too.
        self.assertEqual(logs, (((), DEEP, ()),) + tuple(((0,) * many, DEEP, (7 - many,)) for many in range(1, 7)))


class TestThreads(Case):
    def test_paths(self):
        two = ("two", (), UNIT, (), (let("a", spawn("one")), let("b", spawn("one"))))
        logs = self.logs_of(
            let("a", spawn("two")), do(call("two")), let("b", spawn("one")), functions=(ONE, two))
        # The spawns of a call are those of its thread.
        self.assertEqual([path for path, _, _ in logs], [(), (0,), (0, 0), (0, 1), (1,), (2,), (3,)])

    def test_a_thread_prints_in_its_own_log(self):
        logs = self.logs_of(show(num(3)), show(join(spawn("one"))), show(num(4)), functions=(ONE,))
        self.assertEqual(logs, (((), ("returned", NOTHING), (3, 1, 4)), ((0,), ("returned", num(1)), (1,))))

    def test_more_than_ten_threads_are_told_in_the_order_of_their_paths(self):
        logs = self.logs_of(
            let("i", num(0)), ("while", op("<", use("i"), num(12)), (
                let("t", spawn("one")), store(at("i"), op("+", use("i"), num(1))))), functions=(ONE,))
        self.assertEqual([path for path, _, _ in logs], [()] + [(at,) for at in range(12)])

    def test_results_of_several_cells(self):
        work = ("work", (("x", BOX),), items(BOX, maybe(of("Pair"))), (), (
            give(("tuple", (use("x"), ("some", ("record", "Pair", (num(1), ("box", num(2)))))))),))
        tree = ("tuple", (("box", num(6)), ("some", ("record", "Pair", (num(1), ("box", num(2)))))))
        logs = self.logs_of(
            let("t", spawn("work", ("box", num(6)))), give(join(use("t"))), functions=(work,), records=(PAIR,),
            result=items(BOX, maybe(of("Pair"))))
        self.assertEqual(logs, (((), ("returned", tree), ()), ((0,), ("returned", tree), ())))

    def test_a_result_that_is_taken_apart_by_the_parent(self):
        # The tree is that of the value when the function returned.
        work = ("work", (), items(BOX, INT), (), (give(("tuple", (("box", num(6)), num(7)))),))
        logs = self.logs_of(
            let("x", join(spawn("work"))), store(at("x", 0, "^"), num(8)), show(("unbox", use("x", 0))),
            functions=(work,))
        self.assertEqual(logs, (
            ((), ("returned", NOTHING), (8,)), ((0,), ("returned", ("tuple", (("box", num(6)), num(7)))), ())))

    def test_threads_that_are_dropped(self):
        count = ("count", (("r", EXCLUSIVE),), BOX, (), (
            store(at("r", "^"), op("+", use("r", "^"), num(1))), give(("box", use("r", "^")))))
        # By `do`, by the end of a block, by a store and by a return.
        logs = self.logs_of(
            let("n", num(0)), do(spawn("count", seize("n"))), show(use("n")),
            ("if", TRUE, (let("t", spawn("count", seize("n"))),), ()), show(use("n")),
            let("m", ("some", spawn("count", seize("n")))), store(at("m"), ("none", ("task", BOX))), show(use("n")),
            store(at("m"), ("some", spawn("count", seize("n")))), give(NOTHING), functions=(count,))
        self.assertEqual(logs[0], ((), ("returned", NOTHING), (1, 2, 3)))
        self.assertEqual([ending for _, ending, _ in logs[1:]], [("returned", ("box", num(at))) for at in (1, 2, 3, 4)])

    def test_a_task_that_was_moved_is_not_waited_for_twice(self):
        logs = self.logs_of(
            let("p", ("tuple", (spawn("one"), spawn("one")))), let("a", use("p", 0)), show(join(use("a"))),
            let("m", ("some", use("p", 1))), show(join(use("m", "?"))), functions=(ONE,))
        self.assertEqual(logs[0], ((), ("returned", NOTHING), (1, 1)))

    def test_tasks_as_arguments_and_in_answers(self):
        wait = ("wait", (("t", TASK), ("n", INT)), INT, (), (give(op("+", join(use("t")), use("n"))),))
        make = ("make", (("r", EXCLUSIVE),), items(TASK, INT), ("r",), (
            give(("tuple", (spawn("add", use("r"), num(5)), num(6)))),))
        logs = self.logs_of(
            let("n", num(1)), let("p", call("make", seize("n"))), let("t", spawn("wait", use("p", 0), use("p", 1))),
            show(join(use("t"))), show(use("n")), functions=(ADD, make, wait))
        self.assertEqual(logs, (
            ((), ("returned", NOTHING), (12, 6)), ((0,), ("returned", num(6)), ()), ((1,), ("returned", num(12)), ())))

    def test_a_long_row_of_threads_that_wait_for_one_another(self):
        wait = ("wait", (("t", TASK),), INT, (), (give(op("+", join(use("t")), num(1))),))
        program = self.accepted(((), (ONE, wait, main(
            let("t", spawn("one")), let("i", num(0)), ("while", op("<", use("i"), num(1200)), (
                store(at("i"), op("+", use("i"), num(1))), store(at("t"), spawn("wait", use("t"))))),
            show(join(use("t")))))))
        logs = self.keep(program, limit=60000, schedules=((0,), (3, 1)))
        self.assertEqual(logs[0], ((), ("returned", NOTHING), (1201,)))

    def test_threads_share_what_they_only_read(self):
        look = ("look", (("r", ("shared", items(INT, BOX))), ("n", INT)), INT, (), (
            give(op("*", op("+", use("r", "^", 0), use("r", "^", 1, "^")), use("n"))),))
        logs = self.logs_of(
            let("x", ("tuple", (num(2), ("box", num(3))))), let("t", spawn("look", lend("x"), num(1))),
            let("u", spawn("look", lend("x"), num(10))), show(use("x", 1, "^")), show(join(use("t"))),
            show(join(use("u"))), functions=(look,))
        self.assertEqual(logs[0], ((), ("returned", NOTHING), (3, 5, 50)))

    def test_threads_work_on_the_payload_and_in_boxes(self):
        swap = ("swap", (("r", ("exclusive", BOX)),), INT, (), (
            let("old", ("swap", at("r", "^"), ("box", num(9)))), give(("unbox", use("old")))))
        logs = self.logs_of(
            let("m", ("some", ("tuple", (("box", num(1)), ("box", ("box", num(2))))))),
            let("t", spawn("swap", seize("m", "?", 0))), let("u", spawn("swap", seize("m", "?", 1, "^"))),
            show(join(use("u"))), show(use("m", "?", 1, "^", "^")), show(join(use("t"))), show(use("m", "?", 0, "^")),
            functions=(swap,))
        self.assertEqual(logs[0], ((), ("returned", NOTHING), (2, 9, 1, 9)))


class TestStoppedThreads(Case):
    """Who waits for a thread that has stopped stops with its reason, and drops and stores nothing."""

    FUNCTIONS = (FALL, OPEN, ONE)
    REASON = ("stopped", "no value")

    def expect(self, *block):
        logs = self.logs_of(show(num(1)), *block, show(num(2)), functions=self.FUNCTIONS)
        self.assertEqual(logs, (((), self.REASON, (1,)), ((0,), self.REASON, (7,))), block)

    def test_by_join(self):
        self.expect(do(join(spawn("fall"))))

    def test_by_drop(self):
        self.expect(do(spawn("fall")))

    def test_at_the_end_of_a_block(self):
        self.expect(("if", TRUE, (let("t", spawn("fall")),), ()))

    def test_by_return(self):
        logs = self.logs_of(let("t", spawn("fall")), give(NOTHING), functions=self.FUNCTIONS)
        self.assertEqual(logs, (((), self.REASON, ()), ((0,), self.REASON, (7,))))

    def test_by_store(self):
        self.expect(let("m", ("some", spawn("fall"))), store(at("m"), ("none", TASK)))

    def test_the_new_value_of_a_store_is_not_dropped(self):
        # The thread that was to be stored is not waited for, and ends by itself.
        logs = self.logs_of(
            let("t", spawn("fall")), store(at("t"), spawn("one")), show(num(2)), functions=self.FUNCTIONS)
        self.assertEqual(logs, (
            ((), self.REASON, ()), ((0,), self.REASON, (7,)), ((1,), ("returned", num(1)), (1,))))

    def test_in_a_call(self):
        wait = ("wait", (("t", TASK),), INT, (), (give(join(use("t"))),))
        logs = self.logs_of(show(call("wait", spawn("fall"))), functions=(*self.FUNCTIONS, wait))
        self.assertEqual(logs, (((), self.REASON, ()), ((0,), self.REASON, (7,))))

    def test_through_several_threads(self):
        wait = ("wait", (("t", TASK),), INT, (), (show(num(3)), give(join(use("t")))))
        logs = self.logs_of(
            show(join(spawn("wait", spawn("wait", spawn("open", ("none", INT)))))), functions=(*self.FUNCTIONS, wait))
        self.assertEqual(logs, (((), EMPTY, ()), ((0,), EMPTY, ()), ((1,), EMPTY, (3,)), ((2,), EMPTY, (3,))))

    def test_the_first_one_in_the_order_of_the_cells(self):
        slow = ("slow", (), INT, (), tuple(show(num(at)) for at in range(20)))
        parts = {"fall": spawn("fall"), "open": spawn("open", ("none", INT)), "one": spawn("one"),
            "slow": spawn("slow")}
        for names, wanted in (
                (("fall", "open"), self.REASON), (("open", "fall"), EMPTY), (("one", "open", "fall"), EMPTY),
                (("slow", "open"), self.REASON), (("open", "slow"), EMPTY),
                (("one", "slow", "open", "fall"), self.REASON)):
            logs = self.logs_of(
                let("p", ("tuple", tuple(parts[name] for name in names))), functions=(*self.FUNCTIONS, slow))
            self.assertEqual(logs[0], ((), wanted, ()), names)
            # All of them have ended, those after the one that is told, too.
            self.assertTrue(all(ending != RUNNING for _, ending, _ in logs))

    def test_the_first_one_that_is_there(self):
        logs = self.logs_of(
            let("q", ("none", TASK)),
            let("p", ("tuple", (("none", TASK), spawn("fall"), ("some", spawn("open", ("none", INT)))))),
            store(at("q"), ("some", use("p", 1))), functions=self.FUNCTIONS)
        # The task of `fall` was moved to q, and p is dropped before q.
        self.assertEqual(logs[0], ((), EMPTY, ()))

    def test_what_was_to_be_released_stays(self):
        logs = self.logs_of(
            let("x", ("box", num(1))), let("t", spawn("fall")), show(use("x", "^")), functions=self.FUNCTIONS)
        self.assertEqual(logs[0], ((), self.REASON, (1,)))


class TestLimit(Case):
    COUNT = ("count", (("n", INT),), INT, (), (
        let("i", num(0)), ("while", op("<", use("i"), use("n")), (
            show(use("i")), store(at("i"), op("+", use("i"), num(1))))), give(use("i"))))

    def test_each_instruction_counts(self):
        program = self.accepted(((), (main(show(num(1)), show(num(2))),)))
        # set, print, set, print, set, leave.
        for limit in range(10):
            ending = ("returned", NOTHING) if limit >= 6 else RUNNING
            printed = (1, 2)[:limit // 2]
            self.assertEqual(meaning(program, (), limit), (((), ending, printed),))

    def test_the_instruction_that_stops_a_thread_counts(self):
        program = self.accepted(((), (main(show(num(1)), result=INT),)))
        self.assertEqual(meaning(program, (), 2), (((), RUNNING, (1,)),))
        self.assertEqual(meaning(program, (), 3), (((), ("stopped", "no value"), (1,)),))

    def test_a_call_and_its_leave_count_once_each(self):
        tell = ("tell", (), INT, (), (give(num(1)),))
        program = self.accepted(((), (tell, main(show(call("tell"))))))
        # call, set, leave, print, set, leave.
        for limit in range(10):
            self.assertEqual(
                meaning(program, (), limit),
                (((), ("returned", NOTHING) if limit >= 6 else RUNNING, (1,) if limit >= 4 else ()),))

    def test_each_thread_has_its_own_limit(self):
        program = self.accepted(((), (self.COUNT, main(
            let("a", spawn("count", num(3))), let("b", spawn("count", num(1000))), show(num(5)), show(join(use("a"))),
            show(join(use("b")))))))
        logs = meaning(program, (), 60)
        self.assertEqual(logs[1], ((0,), ("returned", num(3)), (0, 1, 2)))
        # The second thread does not end within the limit, and main does not go on.
        self.assertEqual(logs[0], ((), RUNNING, (5, 3)))
        self.assertEqual(logs[2][:2], ((1,), RUNNING))
        self.assertEqual(logs[2][2], tuple(range(len(logs[2][2]))))
        self.assertGreater(len(logs[2][2]), 4)
        for limit in (0, 5, 20, 60, 300):
            self.keep(program, limit=limit)

    def test_the_limit_of_a_thread_that_is_waited_for(self):
        # 22 instructions of each thread: ten times set and print, set, leave.
        tell = ("tell", (), UNIT, (), tuple(show(num(number)) for number in range(10)))
        wait = ("wait", (("t", ("task", UNIT)),), UNIT, (), (do(join(use("t"))),))
        program = self.accepted(((), (tell, wait, main(do(spawn("wait", spawn("tell")))))))
        for limit, ending in ((21, RUNNING), (22, ("returned", NOTHING)), (23, ("returned", NOTHING))):
            self.assertEqual(meaning(program, (), limit), (
                ((), ending, ()), ((0,), ending, tuple(range(10))), ((1,), ending, ())))

    def test_a_waiting_thread_needs_no_instructions_to_wait(self):
        program = self.accepted(((), (self.COUNT, main(do(join(spawn("count", num(50))))))))
        # set, spawn, join, drop, set, leave are enough for main, but the thread needs more.
        self.assertEqual(meaning(program, (), 6)[0][1], RUNNING)
        self.assertEqual(meaning(program, (), 1000)[0][1], ("returned", NOTHING))

    def test_threads_that_nobody_waits_for_are_run_in_the_end(self):
        one = ("fork", (), INT, (), (let("a", spawn("count", num(2))), let("b", spawn("count", num(1))), give(num(1))))
        program = self.accepted(((), (self.COUNT, one, main(
            let("a", spawn("count", num(1))), let("b", spawn("fork")), do(join(spawn("count", num(1000))))))))
        logs = meaning(program, (), 100)
        self.assertEqual([(path, ending) for path, ending, _ in logs], [
            ((), RUNNING), ((0,), ("returned", num(1))), ((1,), ("returned", num(1))), ((1, 0), ("returned", num(2))),
            ((1, 1), ("returned", num(1))), ((2,), RUNNING)])
        stopped = self.accepted(((), (self.COUNT, one, FALL, main(
            let("a", spawn("count", num(1))), let("b", spawn("fork")), show(call("fall"))))))
        self.assertEqual(
            [ending[0] for _, ending, _ in self.keep(stopped)],
            ["stopped", "returned", "returned", "returned", "returned"])

    def test_no_limit_is_too_small(self):
        self.assertEqual(meaning(self.accepted(EXAMPLE), (5,), 0), (((), RUNNING, ()),))

    def test_endless_loops(self):
        program = self.accepted(((), (main(("while", TRUE, (show(num(1)),))),)))
        logs = self.keep(program, limit=400)
        self.assertEqual(logs[0][1], RUNNING)
        self.assertEqual(len(logs[0][2]), 80)


class TestRefused(unittest.TestCase):
    def test_programs_that_are_not_accepted(self):
        programs = (
            ((), (main(let("x", ("box", num(1))), do(use("x")), do(use("x"))),)),
            ((), (main(), ("bad", (("p", SHARED),), SHARED, (), (give(use("p")),)))),
            ((), (ADD, main(let("n", num(1)), let("t", spawn("add", seize("n"), num(1))), show(use("n"))))))
        for program in programs:
            self.assertIsNone(check_kinds(program))
            before = copy.deepcopy(program)
            for limit in (0, 10):
                with self.assertRaises(ForkError) as caught:
                    meaning(program, (), limit)
                self.assertIs(type(caught.exception), Refused)
            self.assertEqual(program, before)


if __name__ == "__main__":
    unittest.main()
