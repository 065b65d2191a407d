import unittest

from building import (
    BOOL, BOX, EXCLUSIVE, INT, RECORDS, SHARED, TASK, TRUE, UNIT, box, do, items, lend, let, main, maybe, num, of,
    problem, program_of, reason_of, seize, use, wide,
)

NOTHING = ("unit",)
# One variable of each of several kinds that are all different.
SOME_OF_EACH = ("n", "b", "u", "x", "p", "m", "mx", "s", "e", "t", "sp", "i", "mt")
NEXT = ("next", "?", "^")


def swap(variable, *steps, value):
    return ("swap", (variable, steps), value)


def test(variable, *steps):
    return ("is", (variable, steps))


def call(name, *parts):
    return ("call", name, parts)


def spawn(name, *parts):
    return ("spawn", name, parts)


def made(name, *parts):
    return ("record", name, parts)


def row(*parts):
    return ("tuple", parts)


class Case(unittest.TestCase):
    def accept(self, *expressions):
        for expression in expressions:
            self.assertIsNone(reason_of(do(expression)), expression)

    def refuse(self, reason, *expressions):
        for expression in expressions:
            self.assertEqual(reason_of(do(expression)), reason, expression)

    def give(self, kind, expression):
        """The expression is of this kind: it can be returned as that one and as no other one."""
        self.assertIsNone(reason_of(("return", expression), result=kind), expression)
        for other in (INT, BOOL, UNIT, BOX, SHARED, maybe(INT), ("task", UNIT)):
            if other != kind:
                self.assertEqual(reason_of(("return", expression), result=other), "kind", expression)


class TestKindsOfExpressions(Case):
    def test_literals(self):
        self.give(INT, num(0))
        self.give(INT, num(-2147483648))
        self.give(INT, num(2147483648))
        self.give(BOOL, TRUE)
        self.give(BOOL, ("bool", False))
        self.give(UNIT, NOTHING)

    def test_none(self):
        for kind in (INT, BOX, TASK, SHARED, maybe(INT), of("Pair"), items(INT, EXCLUSIVE)):
            self.give(maybe(kind), ("none", kind))

    def test_some_box_tuple(self):
        self.give(maybe(INT), ("some", num(1)))
        self.give(maybe(TASK), ("some", use("t")))
        self.give(BOX, ("box", num(1)))
        self.give(items(INT, BOOL), row(num(1), TRUE))
        self.give(items(BOOL, SHARED, TASK), row(TRUE, use("s"), use("t")))

    def test_record(self):
        self.give(of("Pair"), made("Pair", num(1), use("x")))
        self.give(of("One"), made("One", TRUE))

    def test_unbox_and_join(self):
        self.give(INT, ("unbox", use("x")))
        self.give(BOX, ("unbox", use("xx")))
        self.give(INT, ("join", use("t")))
        self.give(of("Pair"), ("join", use("tp")))

    def test_use(self):
        self.give(INT, use("n"))
        self.give(BOX, use("x"))
        self.give(BOX, use("p", "b"))
        self.give(INT, use("p", "b", "^"))
        self.give(SHARED, use("i", 2))
        self.give(EXCLUSIVE, use("mi", "?", 1))
        self.give(INT, use("ec", "^", *NEXT, "pair", "b", "^"))

    def test_borrow(self):
        self.give(SHARED, lend("n"))
        self.give(EXCLUSIVE, seize("n"))
        self.give(("shared", BOX), lend("p", "b"))
        self.give(("exclusive", of("Pair")), seize("ec", "^", "pair"))

    def test_is_and_swap(self):
        self.give(BOOL, test("m"))
        self.give(INT, swap("n", value=num(1)))
        self.give(BOX, swap("p", "b", value=use("x")))

    def test_operations(self):
        for sign in ("+", "-", "*"):
            self.give(INT, ("op", sign, num(1), num(2)))
        for sign in ("<", "=="):
            self.give(BOOL, ("op", sign, num(1), num(2)))
        for sign in ("and", "or"):
            self.give(BOOL, ("op", sign, TRUE, TRUE))
        self.give(BOOL, ("not", TRUE))

    def test_calls_and_spawns(self):
        self.give(INT, call("one", num(1)))
        self.give(UNIT, call("two", num(1), TRUE))
        self.give(SHARED, call("pick", use("s"), lend("n")))
        self.give(maybe(SHARED), call("late", num(1)))
        self.give(TASK, spawn("one", num(1)))
        self.give(("task", UNIT), spawn("two", num(1), TRUE))
        self.give(("task", BOX), spawn("take", seize("n"), use("x")))

    def test_expressions_in_expressions(self):
        nested = use("n")
        for _ in range(45):
            nested = ("op", "+", nested, num(1))
        self.give(INT, nested)
        nested = ("not", TRUE)
        for _ in range(45):
            nested = ("unbox", ("box", nested))
        self.give(BOOL, nested)


class TestUnknown(Case):
    def test_variables(self):
        self.refuse("unknown", use("none"), lend("none"), seize("none"), test("none"), swap("none", value=num(1)))
        self.refuse("unknown", use("none", 0), lend("none", "^"), seize("none", "?"), test("none", "a"))

    def test_functions(self):
        self.refuse("unknown", call("none"), spawn("none"), call("none", num(1)), spawn("none", use("e")))
        self.refuse("unknown", call("Pair", num(1), use("x")), call("n"), call(""), spawn("a"))

    def test_records(self):
        self.refuse("unknown", made("None"), made("None", num(1)), made("one", num(1)), made("a", num(1)))

    def test_functions_that_come_later_or_call_themselves(self):
        self.accept(call("main"), spawn("main"), call("work"), spawn("work"))

    def test_a_record_without_functions_of_its_name(self):
        self.assertEqual(problem(((), (main(do(made("Pair", num(1)))),))), ("main", "unknown"))

    def test_unknown_comes_after_the_parts(self):
        self.refuse("step", call("none", use("n", 0)), spawn("none", use("n", 0)), made("None", use("n", 0)))
        self.refuse("kind", call("none", ("not", num(1))), made("None", ("some", use("deep"))))

    def test_unknown_comes_before_step(self):
        self.refuse("unknown", use("none", *("^",) * 13), seize("none", *("^",) * 13), test("none", -1))


class TestStep(Case):
    FORMS = (use, lend, seize, test)

    def refuse_steps(self, variable, *steps):
        for form in self.FORMS:
            self.refuse("step", form(variable, *steps))
        self.refuse("step", swap(variable, *steps, value=num(1)))
        self.assertEqual(reason_of(("store", (variable, steps), num(1))), "step")

    def test_items(self):
        for step in (3, 4, -1, -3, True, False, "0"):
            self.refuse_steps("i", step)
        self.give(INT, use("i", 0))
        self.give(SHARED, use("i", 2))

    def test_fields(self):
        self.refuse_steps("p", "c")
        self.refuse_steps("p", "pair")
        self.refuse_steps("c", "a")
        self.refuse_steps("sp", "a")
        self.refuse_steps("sp", "^", "c")

    def test_payloads_boxes_and_borrows(self):
        for variable in ("n", "x", "p", "s", "i", "t"):
            self.refuse_steps(variable, "?")
        for variable in ("n", "b", "u", "p", "m", "i", "t", "mx"):
            self.refuse_steps(variable, "^")
        self.refuse_steps("s", "^", "^")
        self.refuse_steps("xx", "^", "^", "^")
        self.refuse_steps("m", "?", "?")

    def test_tasks_have_no_inside(self):
        for step in ("^", "?", 0, "a"):
            self.refuse_steps("t", step)
            self.refuse_steps("tp", step)

    def test_twelve_steps_and_thirteen(self):
        self.accept(lend("c", *NEXT * 4), seize("c", *NEXT * 4), use("c", *NEXT * 3, "pair", "b", "^"))
        self.accept(use("c", *NEXT * 3, "pair", "a"), test("c", *NEXT * 3, "next"))
        self.accept(swap("c", *NEXT * 4, value=use("c")))
        self.assertIsNone(reason_of(("store", ("c", NEXT * 4), use("c"))))
        self.refuse_steps("c", *NEXT * 4, "pair")
        self.refuse_steps("c", *NEXT * 4, "next")
        self.refuse_steps("c", *NEXT * 5)
        self.refuse_steps("sc", "^", *NEXT * 4)
        self.accept(test("sc", "^", *NEXT * 3, "next"), lend("sc", "^", *NEXT * 3, "next", "?"))

    def test_steps_come_before_the_rest(self):
        self.refuse("step", use("xx", "^", "?"), seize("s", "^", "^"), lend("t", 0), test("n", "?"))
        self.refuse("step", swap("s", "^", "^", value=TRUE), use("sc", "^", *NEXT * 4), seize("sc", "^", *NEXT * 4))


class TestCount(Case):
    def test_calls_and_spawns(self):
        for form in (call, spawn):
            self.refuse("count", form("one"), form("one", num(1), num(2)), form("two", num(1)))
            self.refuse("count", form("main", num(1)), form("two", num(1), TRUE, TRUE))
            self.accept(form("main"), form("one", num(1)), form("two", num(1), TRUE))

    def test_records(self):
        self.refuse("count", made("Pair"), made("Pair", num(1)), made("Pair", num(1), use("x"), num(1)))
        self.refuse("count", made("One"), made("One", TRUE, TRUE))
        six = (num(1), TRUE, NOTHING, use("x"), use("p"), use("m"))
        self.accept(made("Six", *six))
        self.refuse("count", made("Six", *six[:5]), made("Six", *six, num(1)))

    def test_after_the_parts_and_after_unknown(self):
        for form in (call, spawn):
            self.refuse("unknown", form("one", num(1), use("none")), form("none", num(1), num(2)))
            self.refuse("move", form("one", num(1), use("xx", "^")))
        self.refuse("borrow", made("Pair", seize("s", "^")))

    def test_before_spawn_and_kind(self):
        self.refuse("count", spawn("late"), spawn("late", TRUE, TRUE))
        self.refuse("count", call("one", TRUE, TRUE), spawn("one", TRUE, TRUE), made("Pair", TRUE))


class TestSpawn(Case):
    def test_the_result_must_be_plain(self):
        self.refuse("spawn", spawn("pick", use("s"), use("s")), spawn("late", num(1)), spawn("keep", use("t")))
        self.refuse("spawn", spawn("get_i"), spawn("get_mt"), spawn("get_e"))
        self.accept(spawn("get_x"), spawn("get_p"), spawn("get_large"), spawn("get_m"))

    def test_a_call_may_have_any_result(self):
        self.accept(call("pick", use("s"), use("s")), call("late", num(1)), call("keep", use("t")), call("get_i"))

    def test_before_kind(self):
        self.refuse("spawn", spawn("late", TRUE), spawn("pick", num(1), num(2)))

    def test_after_the_parts(self):
        self.refuse("kind", spawn("late", ("not", num(1))))
        self.refuse("unknown", spawn("late", use("none")))

    def test_arguments_may_be_borrows_and_tasks(self):
        functions = (("f", (("t", TASK), ("e", EXCLUSIVE), ("m", maybe(SHARED))), INT, (), ()),)
        block = (
            let("x", num(1)), let("y", num(1)),
            let("t", spawn("g", num(1))),
            do(spawn("f", use("t"), seize("x"), ("some", lend("y")))),
        )
        functions += (("g", (("n", INT),), INT, (), ()), main(*block))
        self.assertIsNone(problem(((), functions)))


class TestKind(Case):
    def test_arguments(self):
        for form in (call, spawn):
            for variable in SOME_OF_EACH[1:]:
                self.refuse("kind", form("one", use(variable)))
            self.refuse("kind", form("two", TRUE, num(1)), form("two", num(1), num(1)), form("two", TRUE, TRUE))
            self.refuse("kind", form("take", use("s"), use("x")), form("take", use("e"), use("n")))
        self.refuse("kind", call("pick", use("s"), use("e")))

    def test_fields(self):
        self.refuse("kind", made("Pair", use("x"), num(1)), made("Pair", num(1), num(1)), made("Pair", TRUE, use("x")))
        self.refuse("kind", made("One", num(1)), made("Six", num(1), TRUE, NOTHING, use("x"), use("p"), num(1)))

    def test_sides_of_operations(self):
        for sign in ("+", "-", "*", "<", "=="):
            for variable in SOME_OF_EACH[1:]:
                self.refuse("kind", ("op", sign, use(variable), num(1)), ("op", sign, num(1), use(variable)))
                self.refuse("kind", ("op", sign, use(variable), use(variable)))
        for sign in ("and", "or"):
            for variable in SOME_OF_EACH[:1] + SOME_OF_EACH[2:]:
                self.refuse("kind", ("op", sign, use(variable), TRUE), ("op", sign, TRUE, use(variable)))
                self.refuse("kind", ("op", sign, use(variable), use(variable)))

    def test_operands(self):
        for variable in SOME_OF_EACH:
            if variable != "b":
                self.refuse("kind", ("not", use(variable)))
            if variable != "x":
                self.refuse("kind", ("unbox", use(variable)))
            if variable != "t":
                self.refuse("kind", ("join", use(variable)))

    def test_the_place_of_is(self):
        for variable in ("m", "mx", "ms", "me", "mt", "mi"):
            self.accept(test(variable))
        self.accept(test("sm", "^"), test("ei", "^", 1), test("c", "next"), test("sc", "^", *NEXT, "next"))
        for variable in ("n", "b", "u", "x", "p", "s", "e", "t", "i", "sm"):
            self.refuse("kind", test(variable))

    def test_what_is_swapped(self):
        for variable in SOME_OF_EACH[1:]:
            self.refuse("kind", swap("n", value=use(variable)))
        self.refuse("kind", swap("x", value=num(1)), swap("m", value=num(1)), swap("p", value=use("c")))
        self.accept(swap("x", value=("box", num(1))), swap("m", value=("some", num(1))), swap("m", "?", value=num(1)))

    def test_tuples_of_two_to_six_items(self):
        for many in range(2, 7):
            self.accept(row(*[num(1)] * many), row(*[use("s")] * many))
        for many in (0, 1, 7, 8, 20):
            self.refuse("kind", row(*[num(1)] * many), row(*[use("s")] * many))

    def test_levels(self):
        self.accept(("some", use("five")), ("box", use("five")), row(num(1), use("five")), lend("five"), seize("five"))
        self.accept(spawn("five"), ("none", maybe(INT, 4)), ("none", maybe(TASK, 3)))
        self.refuse("kind", ("some", use("deep")), ("box", use("deep")), row(num(1), use("deep")), lend("deep"))
        self.refuse("kind", seize("deep"), spawn("deep"), ("none", maybe(INT, 5)), ("none", maybe(TASK, 4)))
        self.refuse("kind", ("none", maybe(INT, 40)), row(use("deep"), num(1)))
        self.accept(call("deep"), lend("deep", "?"), swap("deep", value=use("deep")), test("deep"))

    def test_sizes(self):
        large, half = use("large"), use("h")
        self.accept(("box", large), lend("large"), seize("large"), spawn("get_large"), ("none", wide(59)))
        self.accept(row(half, half), ("some", row(half, num(1))))
        self.refuse("kind", ("some", large), row(large, num(1)), row(num(1), large), ("none", wide(60)))
        self.refuse("kind", row(half, half, num(1)), ("some", row(half, half)), ("box", row(half, half, num(1))))
        self.refuse("kind", ("none", ("box", wide(61))), ("none", ("shared", wide(61))), ("none", ("task", wide(61))))
        self.accept(("none", ("box", wide(60))), ("none", ("shared", wide(60))), ("none", ("task", wide(60))))

    def test_where_no_borrow_and_no_task_may_stand(self):
        for variable in ("s", "e", "t", "i", "ms", "me", "mt", "mi"):
            self.refuse("kind", ("box", use(variable)))
            self.accept(("some", use(variable)), row(num(1), use(variable)))
        for leaf in (SHARED, EXCLUSIVE, TASK):
            for word in ("box", "shared", "exclusive", "task"):
                self.refuse("kind", ("none", (word, leaf)), ("none", maybe((word, leaf))))
                self.refuse("kind", ("none", (word, items(INT, leaf))))
            self.accept(("none", leaf), ("none", items(INT, leaf)))

    def test_kinds_that_are_written_in_none(self):
        self.refuse("kind", ("none", of("None")), ("none", box(of("None"))), ("none", ("shared", of("None"))))
        for many in (0, 1, 7):
            self.refuse("kind", ("none", items(*[INT] * many)), ("none", box(items(*[INT] * many))))
        self.accept(("none", of("Pair")), ("none", items(*[INT] * 6)))

    def test_the_kind_of_the_whole_comes_after_the_parts(self):
        self.refuse("unknown", row(use("none")), row(*[num(1)] * 6, use("none")), ("box", use("none")))
        self.refuse("borrow", ("some", lend("t")))


class TestMove(Case):
    def test_what_is_not_copied_does_not_leave_a_box(self):
        self.refuse("move", use("xx", "^"), use("c", *NEXT), use("c", *NEXT, "pair"))
        self.accept(use("x", "^"), use("xx", "^", "^"), use("c", *NEXT, "pair", "a"))

    def test_what_is_not_copied_does_not_leave_a_borrow(self):
        self.refuse("move", use("sx", "^"), use("ex", "^"), use("sp", "^", "b"), use("ep", "^"), use("si", "^", 1))
        self.refuse("move", use("ec", "^", "next"))
        self.accept(use("s", "^"), use("e", "^"), use("sp", "^", "a"), use("si", "^", 0), use("sm", "^"))
        self.accept(use("sx", "^", "^"), use("ep", "^", "b", "^"), use("mi", "?", 1, "^"), use("ei", "^", 1))

    def test_without_such_a_step_everything_can_be_moved(self):
        for variable in SOME_OF_EACH:
            self.accept(use(variable))
        self.accept(use("p", "b"), use("mx", "?"), use("i", 1), use("mi", "?", 1), use("mt", "?"))
        self.accept(use("c", "pair"), use("c", "next"), use("c", "next", "?"))


class TestBorrow(Case):
    def test_only_what_is_plain_is_borrowed(self):
        for variable in ("s", "e", "t", "i", "ms", "me", "mt", "mi", "sp"):
            self.refuse("borrow", lend(variable), seize(variable))
        self.refuse("borrow", lend("i", 2), seize("mi", "?", 1), lend("mt", "?"))
        for variable in ("n", "b", "u", "x", "p", "m", "large"):
            self.accept(lend(variable), seize(variable))
        self.accept(lend("i", 0), seize("i", 1), seize("mi", "?", 0), lend("c", *NEXT), seize("c", *NEXT))

    def test_only_what_is_plain_is_swapped(self):
        for variable in ("s", "e", "t", "i", "ms", "mi"):
            self.refuse("borrow", swap(variable, value=use(variable)), swap(variable, value=num(1)))
        self.accept(swap("i", 1, value=use("x")), swap("i", 0, value=num(1)), swap("mi", "?", 0, value=num(1)))

    def test_nothing_is_changed_across_a_shared_borrow(self):
        for variable, steps in (("s", ("^",)), ("sx", ("^",)), ("sx", ("^", "^")), ("sp", ("^", "a")),
                                ("ms", ("?", "^")), ("i", (2, "^")), ("sc", ("^", *NEXT, "pair")),
                                ("si", ("^", 1, "^"))):
            self.refuse("borrow", seize(variable, *steps), swap(variable, *steps, value=num(1)))
            self.assertEqual(reason_of(("store", (variable, steps), num(1))), "borrow")
            self.accept(lend(variable, *steps))

    def test_what_is_behind_an_exclusive_borrow_can_be_changed(self):
        for variable, steps, value in (("e", ("^",), num(1)), ("ex", ("^", "^"), num(1)), ("ep", ("^",), use("p")),
                                       ("ep", ("^", "b"), use("x")), ("mi", ("?", 1, "^"), num(1)),
                                       ("ec", ("^", *NEXT, "pair", "b", "^"), num(1))):
            self.accept(lend(variable, *steps), seize(variable, *steps), swap(variable, *steps, value=value))
            self.assertIsNone(reason_of(("store", (variable, steps), value)))

    def test_borrow_comes_before_kind(self):
        self.refuse("borrow", swap("s", value=TRUE), swap("sp", "^", "a", value=TRUE), swap("t", value=num(1)))
        functions = (("f", (("s", ("shared", maybe(INT, 4))),), UNIT, (), (do(seize("s", "^")),)), main())
        self.assertEqual(problem(((), functions)), ("f", "borrow"))

    def test_swap_checks_the_expression_first(self):
        for place in (("none", ()), ("n", (0,)), ("s", ("^",)), ("t", ()), ("b", ())):
            self.refuse("move", ("swap", place, use("xx", "^")))
            self.refuse("kind", ("swap", place, ("not", num(1))))
            self.refuse("count", ("swap", place, call("one")))


class TestWhichComesFirst(Case):
    def test_parts_from_the_left_to_the_right(self):
        wrong = {
            "unknown": use("none"), "step": use("n", 0), "count": call("one"), "spawn": spawn("late", num(1)),
            "kind": ("not", num(1)), "move": use("xx", "^"), "borrow": seize("s", "^"),
        }
        for first, one in wrong.items():
            for second, two in wrong.items():
                self.refuse(first, ("op", "+", one, two), row(one, two), row(num(1), one, num(2), two))
                self.refuse(first, call("two", one, two), spawn("late", one, two), made("Pair", one, two))
                self.refuse(first, ("op", "+", ("unbox", one), two), row(row(num(1), one), two))

    def test_the_parts_come_before_the_whole(self):
        self.refuse("unknown", ("not", use("none")), ("unbox", use("none")), ("join", use("none")))
        self.refuse("step", ("op", "and", num(1), use("n", 0)), ("some", use("n", 0)), row(use("n", 0)))

    def test_statements_of_one_expression(self):
        for word in ("do", "print", "return"):
            self.assertEqual(reason_of((word, use("none"))), "unknown")
        self.assertEqual(reason_of(("print", ("tuple", (num(1), ("not", num(1)))))), "kind")


class TestWithoutRecords(Case):
    def test_records_of_the_tests_pass(self):
        self.assertIsNone(problem((RECORDS, (main(),))))
        self.assertIsNone(problem(program_of(())))


if __name__ == "__main__":
    unittest.main()
