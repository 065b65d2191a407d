import copy
import unittest

from building import (
    BOX, EXCLUSIVE, INT, SHARED, TASK, TRUE, UNIT, at, call, do, give, items, join, lend, let, main, maybe, num,
    of, record, seize, show, spawn, store, use,
)
from forklent.graph import build_graph
from forklent.kinding import check_kinds
from forklent.marks import conflicts, first_marks, loans, new_marks, pass_mark, problems

RECORDS = (record("Pair", INT, BOX),)
TWO = items(SHARED, maybe(TASK))
FUNCTIONS = (
    ("one", (("e", EXCLUSIVE),), INT, (), (give(num(1)),)),
    ("see", (("s", SHARED),), INT, (), (give(num(1)),)),
    ("pick", (("p", SHARED), ("q", SHARED)), SHARED, ("q",), (give(use("q")),)),
    ("wrap", (("p", SHARED), ("q", SHARED)), items(SHARED, SHARED), ("p", "q"), ()),
)


class Case(unittest.TestCase):
    def build(self, *block, parameters=(), result=UNIT, sources=()):
        """A program with the function, and its graph."""
        function = ("under", parameters, result, sources, tuple(block))
        program = (RECORDS, FUNCTIONS + (function, main()))
        self.assertIsNone(check_kinds(program))
        return program, build_graph(program, "under")

    def point_of(self, graph, instruction):
        """The last point that has this instruction."""
        points = [point for point, row in enumerate(graph.points) if row == instruction]
        self.assertNotEqual(points, [], graph.points)
        return points[-1]

    def unchanged(self, function, program, graph, *more):
        """What a function returns; its arguments stay as they are."""
        before = copy.deepcopy((program, vars(graph), more))
        answer = function(program, graph, *more)
        self.assertEqual((program, vars(graph), more), before)
        return answer

    def passed(self, program, graph, instruction, mark):
        answer = self.unchanged(pass_mark, program, graph, self.point_of(graph, instruction), mark)
        self.assertIs(type(answer), list)
        self.assertEqual(len(set(answer)), len(answer))
        return set(answer)

    def shown(self, program, graph, instruction, *marks):
        return self.unchanged(problems, program, graph, self.point_of(graph, instruction), list(marks))


def loan(leaf, name, state="alive"):
    return ("loan", leaf, name, state)


class TestLoans(Case):
    def test_places_that_cross_nothing_a_box_or_an_exclusive_borrow(self):
        program, graph = self.build(
            do(lend("n")), do(seize("x", "^")), do(seize("e", "^")), do(lend("e", "^")), do(lend("p", 1, "^")),
            parameters=(("n", INT), ("x", BOX), ("e", EXCLUSIVE), ("p", items(INT, EXCLUSIVE))))
        self.assertEqual(self.unchanged(loans, program, graph), {
            0: ("shared", at("n")), 2: ("exclusive", at("x", "^")), 4: ("exclusive", at("e", "^")),
            6: ("shared", at("e", "^")), 8: ("shared", at("p", 1, "^"))})

    def test_places_that_cross_a_shared_borrow_make_none(self):
        program, graph = self.build(
            do(lend("s", "^")), do(lend("p", 1, "^", "b", "^")), do(lend("p", 0)),
            parameters=(("s", SHARED), ("p", items(INT, ("shared", of("Pair"))))))
        self.assertEqual(loans(program, graph), {4: ("shared", at("p", 0))})

    def test_parameters_do_not_stand_in_it(self):
        program, graph = self.build(parameters=(("s", SHARED), ("e", EXCLUSIVE), ("t", TASK)))
        self.assertEqual(loans(program, graph), {})

    def test_what_cannot_be_reached_makes_loans_too(self):
        program, graph = self.build(give(("unit",)), do(seize("n")), parameters=(("n", INT),))
        self.assertEqual(loans(program, graph), {3: ("exclusive", at("n"))})


class TestConflicts(unittest.TestCase):
    # The place of the access, and places that are equal, behind it, before it, and apart.
    PLACE = at("x", 0, 1)
    OVERLAPPING = (at("x", 0, 1), at("x", 0, 1, 2), at("x", 0, 1, "^", "?"), at("x", 0), at("x"))
    APART = (at("y", 0, 1), at("x", 1), at("x", 0, 2), at("x", "^", 1), at("y"))

    def expect(self, answer, mode, place, loan_mode, loan_place, crossing=None):
        wanted, lent = (mode, place), (loan_mode, loan_place)
        found = conflicts(wanted, lent, crossing)
        self.assertIs(found, answer, (wanted, lent, crossing))

    def test_a_read_conflicts_with_exclusive_loans_only(self):
        for place in self.OVERLAPPING:
            self.expect(True, "read", self.PLACE, "exclusive", place)
            self.expect(False, "read", self.PLACE, "shared", place)

    def test_the_other_modes_conflict_with_both(self):
        for mode in ("write", "move", "store"):
            for loan_mode in ("shared", "exclusive"):
                for place in self.OVERLAPPING:
                    self.expect(True, mode, self.PLACE, loan_mode, place)

    def test_places_that_do_not_overlap(self):
        for mode in ("read", "write", "move", "store"):
            for loan_mode in ("shared", "exclusive"):
                for place in self.APART:
                    self.expect(False, mode, self.PLACE, loan_mode, place)

    def test_a_store_leaves_what_lies_behind_a_borrow_in_it(self):
        for loan_mode in ("shared", "exclusive"):
            # The crossing lies behind the place that is stored to.
            self.expect(False, "store", at("r"), loan_mode, at("r", "^"), 0)
            self.expect(False, "store", at("r"), loan_mode, at("r", 1, "^", "b"), 1)
            self.expect(False, "store", at("r", 1), loan_mode, at("r", 1, "^", "b"), 1)
            self.expect(False, "store", at("r"), loan_mode, at("r", "?", 1, "^"), 2)

    def test_a_store_behind_the_borrow_conflicts(self):
        for loan_mode in ("shared", "exclusive"):
            # The crossing is at one of the steps of the place that is stored to.
            self.expect(True, "store", at("r", "^"), loan_mode, at("r", "^"), 0)
            self.expect(True, "store", at("r", "^"), loan_mode, at("r", "^", "b"), 0)
            self.expect(True, "store", at("r", 1, "^"), loan_mode, at("r", 1, "^", "b"), 1)
            self.expect(True, "store", at("r", "^", "b"), loan_mode, at("r", "^"), 0)

    def test_a_store_to_a_box_conflicts(self):
        self.expect(True, "store", at("x"), "shared", at("x", "^"), None)
        self.expect(True, "store", at("x"), "exclusive", at("x", "^", 1), None)

    def test_the_exception_is_for_stores_only(self):
        self.expect(True, "write", at("r"), "shared", at("r", "^"), 0)
        self.expect(True, "move", at("r"), "exclusive", at("r", "^"), 0)
        self.expect(True, "read", at("r"), "exclusive", at("r", "^"), 0)

    def test_the_exception_is_for_places_that_overlap(self):
        self.expect(False, "store", at("q"), "exclusive", at("r", "^"), 0)
        self.expect(False, "store", at("r", 0), "exclusive", at("r", 1, "^"), 1)


class TestFirstMarks(Case):
    def test_all_leaves_of_all_parameters(self):
        program, graph = self.build(parameters=(("n", INT), ("s", SHARED), ("p", TWO), ("m", maybe(EXCLUSIVE))))
        answer = self.unchanged(first_marks, program, graph)
        self.assertIs(type(answer), list)
        self.assertCountEqual(answer, [
            loan(at("s"), "s"), loan(at("p", 0), "p"), loan(at("p", 1, "?"), "p"), loan(at("m", "?"), "m")])

    def test_none(self):
        program, graph = self.build(let("r", num(1)), parameters=(("n", INT), ("x", BOX)))
        self.assertEqual(first_marks(program, graph), [])


class TestNewMarks(Case):
    def test_a_loan(self):
        program, graph = self.build(do(lend("n")), do(seize("e", "^")), parameters=(("n", INT), ("e", EXCLUSIVE)))
        self.assertEqual(self.unchanged(new_marks, program, graph, 0), [loan(at("#0"), 0)])
        self.assertEqual(self.unchanged(new_marks, program, graph, 2), [loan(at("#1"), 2)])

    def test_a_borrow_through_a_shared_one(self):
        program, graph = self.build(do(lend("s", "^")), parameters=(("s", SHARED),))
        self.assertEqual(new_marks(program, graph, 0), [])

    def test_a_move(self):
        program, graph = self.build(do(use("p", 1)), parameters=(("p", items(INT, BOX)),))
        self.assertEqual(graph.points[0], ("move", "#0", at("p", 1)))
        self.assertEqual(self.unchanged(new_marks, program, graph, 0), [("moved", at("p", 1))])

    def test_all_other_instructions(self):
        program, graph = self.build(
            let("m", ("some", ("box", num(1)))), ("if", ("is", at("m")), (show(num(1)),), ()),
            store(at("m"), ("none", BOX)), do(("swap", at("n"), use("n"))), do(call("see", use("s"))),
            do(join(spawn("see", use("s")))), do(("unbox", ("box", num(1)))),
            parameters=(("n", INT), ("s", SHARED)))
        words = set()
        for point, instruction in enumerate(graph.points):
            words.add(instruction[0])
            self.assertEqual(new_marks(program, graph, point), [], instruction)
        self.assertLessEqual({
            "set", "make", "let", "is", "test", "print", "jump", "store", "copy", "swap", "drop", "call", "spawn",
            "join",
            "unbox", "leave"}, words)


class TestPassedLoans(Case):
    """Where the marks of loans go, and what becomes of their states."""

    def test_a_mark_that_nothing_touches_stays(self):
        program, graph = self.build(show(num(1)), parameters=(("s", SHARED),))
        for state in ("alive", "loose", "dead"):
            mark = loan(at("s"), "s", state)
            self.assertEqual(self.passed(program, graph, ("set", "#0", num(1)), mark), {mark})
            self.assertEqual(self.passed(program, graph, ("print", "#0"), mark), {mark})

    def test_a_copy_gives_the_mark_a_second_leaf(self):
        program, graph = self.build(do(use("s")), parameters=(("s", SHARED),))
        for state in ("alive", "loose", "dead"):
            self.assertEqual(
                self.passed(program, graph, ("copy", "#0", at("s")), loan(at("s"), "s", state)),
                {loan(at("s"), "s", state), loan(at("#0"), "s", state)})

    def test_a_move_takes_the_mark_along(self):
        program, graph = self.build(do(use("p", 1)), parameters=(("p", items(EXCLUSIVE, maybe(TASK))),))
        instruction = ("move", "#0", at("p", 1))
        self.assertEqual(
            self.passed(program, graph, instruction, loan(at("p", 1, "?"), "p")), {loan(at("#0", "?"), "p")})
        self.assertEqual(self.passed(program, graph, instruction, loan(at("p", 0), "p")), {loan(at("p", 0), "p")})

    def test_a_borrow_takes_the_marks_of_the_borrow_that_it_crosses(self):
        program, graph = self.build(do(lend("e", "^")), parameters=(("e", EXCLUSIVE),))
        self.assertEqual(
            self.passed(program, graph, ("borrow", "#0", "shared", at("e", "^")), loan(at("e"), "e")),
            {loan(at("e"), "e"), loan(at("#0"), "e")})

    def test_all_leaves_of_an_answer_get_the_mark(self):
        program, graph = self.build(
            do(call("wrap", use("s"), use("t"))), do(call("pick", use("s"), use("t"))),
            parameters=(("s", SHARED), ("t", SHARED)))
        self.assertEqual(
            self.passed(program, graph, ("call", "#2", "wrap", ("#0", "#1")), loan(at("#0"), "s")),
            {loan(at("#2", 0), "s"), loan(at("#2", 1), "s")})
        instruction = ("call", "#5", "pick", ("#3", "#4"))
        # The first parameter is not a source of the function, so its mark goes nowhere.
        self.assertEqual(self.passed(program, graph, instruction, loan(at("#3"), "s")), set())
        self.assertEqual(self.passed(program, graph, instruction, loan(at("#4"), "t")), {loan(at("#5"), "t")})

    def test_spawn_join_leave_and_drop(self):
        program, graph = self.build(do(join(spawn("see", use("s")))), parameters=(("s", SHARED),))
        self.assertEqual(
            self.passed(program, graph, ("spawn", "#1", "see", ("#0",)), loan(at("#0"), "s")), {loan(at("#1"), "s")})
        self.assertEqual(self.passed(program, graph, ("join", "#2", "#1"), loan(at("#1"), "s")), set())
        self.assertEqual(self.passed(program, graph, ("drop", "s"), loan(at("s"), "s")), set())
        program, graph = self.build(give(use("s")), parameters=(("s", SHARED),), result=SHARED, sources=("s",))
        self.assertEqual(self.passed(program, graph, ("leave", "#0"), loan(at("#0"), "s")), set())

    def test_an_access_that_conflicts_makes_the_mark_dead(self):
        program, graph = self.build(
            let("r", seize("n")), show(use("n")), let("s", lend("n")), store(at("n"), num(2)), parameters=(("n", INT),))
        self.assertEqual(
            self.passed(program, graph, ("copy", "#1", at("n")), loan(at("r"), 0)), {loan(at("r"), 0, "dead")})
        self.assertEqual(
            self.passed(program, graph, ("borrow", "#2", "shared", at("n")), loan(at("r"), 0)),
            {loan(at("r"), 0, "dead")})
        self.assertEqual(
            self.passed(program, graph, ("store", at("n"), "#3"), loan(at("s"), 4)), {loan(at("s"), 4, "dead")})
        # A read does not conflict with a shared loan.
        self.assertEqual(self.passed(program, graph, ("copy", "#1", at("n")), loan(at("s"), 4)), {loan(at("s"), 4)})

    def test_a_mark_that_is_not_alive_keeps_its_state(self):
        program, graph = self.build(let("r", seize("n")), show(use("n")), parameters=(("n", INT),))
        for state in ("loose", "dead"):
            mark = loan(at("r"), 0, state)
            self.assertEqual(self.passed(program, graph, ("copy", "#1", at("n")), mark), {mark})

    def test_a_mark_that_dies_goes_its_way_all_the_same(self):
        program, graph = self.build(
            let("p", ("tuple", (num(1), lend("n")))), let("q", seize("p", 0)), do(use("p")), parameters=(("n", INT),))
        self.assertEqual(graph.points[4], ("borrow", "#3", "exclusive", at("p", 0)))
        # Both happen to a mark of the loan of p's first item at a leaf of p: it dies, and it is copied.
        self.assertEqual(
            self.passed(program, graph, ("copy", "#4", at("p")), loan(at("p", 1), 4)),
            {loan(at("p", 1), 4, "dead"), loan(at("#4", 1), 4, "dead")})

    def test_a_borrow_that_is_replaced_makes_loans_through_it_loose(self):
        program, graph = self.build(
            let("q", seize("r", "^")), store(at("r"), use("f")), do(use("q")),
            parameters=(("r", EXCLUSIVE), ("f", EXCLUSIVE)))
        self.assertEqual(graph.points[0], ("borrow", "#0", "exclusive", at("r", "^")))
        instruction = ("store", at("r"), "#1")
        self.assertEqual(self.passed(program, graph, instruction, loan(at("q"), 0)), {loan(at("q"), 0, "loose")})
        self.assertEqual(
            self.passed(program, graph, instruction, loan(at("q"), 0, "dead")), {loan(at("q"), 0, "dead")})
        self.assertEqual(self.passed(program, graph, instruction, loan(at("q"), "r")), {loan(at("q"), "r")})

    def test_drop_and_let_make_loans_loose_too(self):
        program, graph = self.build(
            ("while", TRUE, (let("r", seize("n")), store(at("m"), ("some", seize("r", "^"))))),
            parameters=(("n", INT), ("m", maybe(EXCLUSIVE))))
        self.assertEqual(graph.points[4], ("borrow", "#2", "exclusive", at("r", "^")))
        mark = loan(at("m", "?"), 4)
        self.assertEqual(self.passed(program, graph, ("drop", "r"), mark), {loan(at("m", "?"), 4, "loose")})
        self.assertEqual(self.passed(program, graph, ("let", "r", "#1"), mark), {loan(at("m", "?"), 4, "loose")})

    def test_a_move_of_the_borrow_makes_loans_through_it_dead(self):
        program, graph = self.build(let("q", lend("r", "^")), do(use("r")), parameters=(("r", EXCLUSIVE),))
        self.assertEqual(
            self.passed(program, graph, ("move", "#1", at("r")), loan(at("q"), 0)), {loan(at("q"), 0, "dead")})

    def test_no_access_conflicts_with_a_parameter(self):
        program, graph = self.build(
            store(at("e", "^"), num(1)), do(("swap", at("e", "^"), num(2))), do(seize("e", "^")), do(use("e", "^")),
            parameters=(("e", EXCLUSIVE),))
        mark = loan(at("e"), "e")
        for instruction in (("store", at("e", "^"), "#0"), ("swap", "#2", at("e", "^"), "#1"),
            ("copy", "#4", at("e", "^"))):
            self.assertEqual(self.passed(program, graph, instruction, mark), {mark})

    def test_the_exception_for_stores(self):
        program, graph = self.build(
            let("q", lend("r", "^")), store(at("r", "^"), num(1)), parameters=(("r", EXCLUSIVE),))
        self.assertEqual(
            self.passed(program, graph, ("store", at("r", "^"), "#1"), loan(at("q"), 0)), {loan(at("q"), 0, "dead")})
        # The drop of r is a store to r, and what r refers to lies behind it.
        self.assertEqual(self.passed(program, graph, ("drop", "r"), loan(at("q"), 0)), {loan(at("q"), 0, "loose")})


class TestPassedMoves(Case):
    def test_they_stay(self):
        program, graph = self.build(do(use("x")), show(num(1)), store(at("y"), ("box", num(2))),
                                    parameters=(("x", BOX), ("y", BOX)))
        mark = ("moved", at("x"))
        for instruction in graph.points:
            if instruction != ("drop", "x"):
                self.assertEqual(self.passed(program, graph, instruction, mark), {mark}, instruction)

    def test_a_drop_ends_them(self):
        program, graph = self.build(parameters=(("x", items(INT, BOX)), ("y", BOX)))
        for place in (at("x"), at("x", 1)):
            self.assertEqual(self.passed(program, graph, ("drop", "x"), ("moved", place)), set())
            self.assertEqual(self.passed(program, graph, ("drop", "y"), ("moved", place)), {("moved", place)})

    def test_a_let_ends_them(self):
        program, graph = self.build(let("z", ("box", num(1))))
        self.assertEqual(self.passed(program, graph, ("let", "z", "#1"), ("moved", at("z"))), set())
        self.assertEqual(self.passed(program, graph, ("let", "z", "#1"), ("moved", at("y"))), {("moved", at("y"))})

    def test_a_store_to_a_prefix_ends_them(self):
        pair = items(INT, BOX)
        program, graph = self.build(
            store(at("x", 1), use("y")), store(at("x", 0), num(1)), store(at("x", 1, "^"), num(2)),
            store(at("x"), use("z")),
            parameters=(("x", pair), ("y", BOX), ("z", pair)))
        part = ("store", at("x", 1), "#0")
        whole = ("store", at("x"), "#3")
        self.assertEqual(self.passed(program, graph, part, ("moved", at("x", 1))), set())
        self.assertEqual(self.passed(program, graph, whole, ("moved", at("x", 1))), set())
        self.assertEqual(self.passed(program, graph, whole, ("moved", at("x"))), set())
        # A store to a part, or to another part, leaves them.
        self.assertEqual(self.passed(program, graph, part, ("moved", at("x"))), {("moved", at("x"))})
        for instruction in (("store", at("x", 0), "#1"), ("store", at("x", 1, "^"), "#2")):
            self.assertEqual(self.passed(program, graph, instruction, ("moved", at("x", 1))), {("moved", at("x", 1))})

    def test_a_swap_does_not_end_them(self):
        program, graph = self.build(do(("swap", at("x"), use("y"))), parameters=(("x", BOX), ("y", BOX)))
        self.assertEqual(
            self.passed(program, graph, ("swap", "#1", at("x"), "#0"), ("moved", at("x"))), {("moved", at("x"))})

    def test_an_item_is_not_mistaken_for_another_variable(self):
        program, graph = self.build(store(at("x"), use("y")), parameters=(("x", BOX), ("y", BOX)))
        self.assertEqual(
            self.passed(program, graph, ("store", at("x"), "#0"), ("moved", at("y"))), {("moved", at("y"))})


class TestMovedProblems(Case):
    PAIR = items(BOX, items(INT, BOX))

    def expect(self, instruction, problem_places, other_places, *block, more=()):
        program, graph = self.build(*block, parameters=(("x", self.PAIR), ("y", BOX), ("m", maybe(BOX)), *more))
        for place in problem_places:
            self.assertEqual(self.shown(program, graph, instruction, ("moved", place)), ("moved",), place)
        for place in other_places:
            self.assertEqual(self.shown(program, graph, instruction, ("moved", place)), (), place)

    def test_what_needs_the_whole_place(self):
        near = (at("x"), at("x", 1), at("x", 1, 1), at("x", 1, 1, "^"))
        far = (at("y"), at("x", 0), at("x", 1, 0))
        for instruction, expression in (
                (("move", "#0", at("x", 1, 1)), use("x", 1, 1)),
                (("borrow", "#0", "shared", at("x", 1, 1)), lend("x", 1, 1)),
                (("borrow", "#0", "exclusive", at("x", 1, 1)), seize("x", 1, 1)),
                (("swap", "#1", at("x", 1, 1), "#0"), ("swap", at("x", 1, 1), use("y")))):
            self.expect(instruction, near, far, do(expression))

    def test_copy_and_is(self):
        self.expect(("copy", "#0", at("y", "^")), (at("y"), at("y", "^")), (at("x"),), show(use("y", "^")))
        self.expect(("is", "#0", at("m")), (at("m"), at("m", "?")), (at("x"),), do(("is", at("m"))))

    def test_a_store_needs_the_way_only(self):
        self.expect(
            ("store", at("x", 1, 1), "#0"), (at("x"), at("x", 1)),
            (at("x", 1, 1), at("x", 1, 1, "^"), at("x", 0), at("y")),
            store(at("x", 1, 1), use("y")))
        self.expect(("store", at("y", "^"), "#0"), (at("y"),), (at("y", "^"), at("x")), store(at("y", "^"), num(1)))

    def test_the_others_need_nothing(self):
        self.expect(("drop", "x"), (), (at("x"), at("x", 1)))
        self.expect(("let", "z", "#0"), (), (at("z"), at("y")), let("z", use("y")))
        self.expect(("make", "#1", "some", ("#0",)), (), (at("y"),), do(("some", use("y"))))


class TestDeadProblems(Case):
    def test_what_is_used(self):
        program, graph = self.build(
            show(use("e", "^")), store(at("e", "^"), num(1)), do(lend("e", "^")), do(use("p")),
            let("q", use("s")), do(spawn("see", use("s"))), parameters=(("e", EXCLUSIVE), ("s", SHARED), ("p", TWO)))
        for instruction, leaf in (
                (("copy", "#0", at("e", "^")), at("e")), (("store", at("e", "^"), "#1"), at("e")),
                (("borrow", "#2", "shared", at("e", "^")), at("e")), (("move", "#3", at("p")), at("p", 0)),
                (("move", "#3", at("p")), at("p", 1, "?")), (("let", "q", "#4"), at("#4")),
                (("spawn", "#6", "see", ("#5",)), at("#5"))):
            self.assertEqual(self.shown(program, graph, instruction, loan(leaf, "e", "dead")), ("dead",), instruction)
            for state in ("alive", "loose"):
                self.assertEqual(self.shown(program, graph, instruction, loan(leaf, "e", state)), (), instruction)

    def test_what_is_not_used(self):
        program, graph = self.build(
            show(num(1)), let("q", use("s")), do(use("n")), parameters=(("e", EXCLUSIVE), ("s", SHARED), ("n", INT)))
        for instruction in (("print", "#0"), ("drop", "e"), ("drop", "q"), ("copy", "#2", at("n"))):
            for leaf in (at("e"), at("q"), at("s")):
                self.assertEqual(self.shown(program, graph, instruction, loan(leaf, "e", "dead")), (), instruction)

    def test_what_is_joined_and_what_leaves(self):
        program, graph = self.build(give(join(use("t"))), parameters=(("t", TASK),), result=INT)
        self.assertEqual(self.shown(program, graph, ("join", "#1", "#0"), loan(at("#0"), "t", "dead")), ("dead",))
        program, graph = self.build(give(use("s")), parameters=(("s", SHARED),), result=SHARED, sources=("s",))
        self.assertEqual(self.shown(program, graph, ("leave", "#0"), loan(at("#0"), "s", "dead")), ("dead",))


class TestBusyProblems(Case):
    def test_an_access_to_what_a_thread_has(self):
        program, graph = self.build(
            let("t", spawn("one", seize("n"))), show(use("n")), do(lend("n")), do(seize("n")), store(at("n"), num(1)),
            do(("swap", at("n"), num(2))), show(use("k")), parameters=(("n", INT), ("k", INT)))
        mark = loan(at("t"), 0)
        for instruction in (
                ("copy", "#2", at("n")), ("borrow", "#3", "shared", at("n")), ("borrow", "#4", "exclusive", at("n")),
                ("store", at("n"), "#5"), ("swap", "#7", at("n"), "#6"), ("drop", "n")):
            self.assertEqual(self.shown(program, graph, instruction, mark), ("busy",), instruction)
            for state in ("loose", "dead"):
                self.assertEqual(self.shown(program, graph, instruction, loan(at("t"), 0, state)), ())
        for instruction in (("copy", "#8", at("k")), ("drop", "k"), ("print", "#2"), ("set", "#5", num(1)),
            ("drop", "t")):
            self.assertEqual(self.shown(program, graph, instruction, mark), (), instruction)

    def test_a_read_of_what_a_thread_reads(self):
        program, graph = self.build(
            let("t", spawn("see", lend("n"))), show(use("n")), store(at("n"), num(1)), parameters=(("n", INT),))
        self.assertEqual(self.shown(program, graph, ("copy", "#2", at("n")), loan(at("t"), 0)), ())
        self.assertEqual(self.shown(program, graph, ("store", at("n"), "#3"), loan(at("t"), 0)), ("busy",))

    def test_the_leaf_must_be_a_task(self):
        program, graph = self.build(
            let("p", ("tuple", (seize("n"), spawn("one", seize("k"))))), show(use("n")), show(use("k")),
            parameters=(("n", INT), ("k", INT)))
        self.assertEqual(self.shown(program, graph, ("copy", "#4", at("n")), loan(at("p", 0), 0)), ())
        self.assertEqual(self.shown(program, graph, ("copy", "#4", at("n")), loan(at("p", 1), 0)), ("busy",))
        self.assertEqual(self.shown(program, graph, ("copy", "#5", at("k")), loan(at("p", 1), 1)), ("busy",))

    def test_a_temporary_can_have_the_task(self):
        program, graph = self.build(
            do(("tuple", (spawn("one", seize("n")), use("n")))), parameters=(("n", INT),))
        self.assertEqual(self.shown(program, graph, ("copy", "#2", at("n")), loan(at("#1"), 0)), ("busy",))

    def test_no_access_conflicts_with_a_parameter(self):
        program, graph = self.build(show(use("e", "^")), parameters=(("e", EXCLUSIVE), ("t", TASK)))
        self.assertEqual(self.shown(program, graph, ("copy", "#0", at("e", "^")), loan(at("t"), "e")), ())

    def test_a_drop_waits_for_what_it_drops(self):
        program, graph = self.build(
            let("p", ("tuple", (num(1), ("none", TASK)))), store(at("p", 1), ("some", spawn("one", seize("p", 0)))),
            let("q", ("none", TASK)))
        self.assertEqual(graph.points[4], ("borrow", "#3", "exclusive", at("p", 0)))
        self.assertEqual(self.shown(program, graph, ("drop", "p"), loan(at("p", 1, "?"), 4)), ())
        # A task in another variable is not waited for.
        self.assertEqual(self.shown(program, graph, ("drop", "p"), loan(at("q", "?"), 4)), ("busy",))

    def test_a_move_does_not_wait(self):
        program, graph = self.build(
            let("p", ("tuple", (num(1), ("none", TASK)))), store(at("p", 1), ("some", spawn("one", seize("p", 0)))),
            do(use("p")))
        self.assertEqual(graph.points[4], ("borrow", "#3", "exclusive", at("p", 0)))
        self.assertEqual(
            self.shown(program, graph, ("move", "#6", at("p")), loan(at("p", 1, "?"), 4)), ("busy",))

    def test_a_store_waits_for_what_it_replaces(self):
        kind = items(INT, maybe(TASK))
        program, graph = self.build(
            let("p", ("tuple", (num(1), ("none", TASK)))), store(at("p", 1), ("some", spawn("one", seize("p", 0)))),
            let("q", ("none", TASK)), store(at("p", 0), num(2)), store(at("p"), use("z")), parameters=(("z", kind),))
        mark = loan(at("p", 1, "?"), 4)
        whole = ("store", at("p"), "#8")
        self.assertEqual(self.shown(program, graph, whole, mark), ())
        self.assertEqual(self.shown(program, graph, whole, loan(at("q", "?"), 4)), ("busy",))
        # The task stands beside the place here, not in it.
        self.assertEqual(self.shown(program, graph, ("store", at("p", 0), "#7"), mark), ("busy",))


class TestEscapeProblems(Case):
    def test_only_sources_may_leave(self):
        for sources, answer in (((), ("escape",)), (("q",), ("escape",)), (("p",), ()), (("q", "p"), ())):
            program, graph = self.build(
                give(use("p")), parameters=(("p", SHARED), ("q", SHARED)), result=SHARED, sources=sources)
            for state in ("alive", "loose"):
                mark = loan(at("#0"), "p", state)
                self.assertEqual(self.shown(program, graph, ("leave", "#0"), mark), answer, sources)

    def test_at_a_leave_and_for_what_leaves_only(self):
        program, graph = self.build(give(use("p")), parameters=(("p", SHARED), ("q", SHARED)), result=SHARED)
        self.assertEqual(self.shown(program, graph, ("leave", "#0"), loan(at("p"), "p")), ())
        self.assertEqual(self.shown(program, graph, ("drop", "p"), loan(at("p"), "p")), ())
        self.assertEqual(self.shown(program, graph, ("copy", "#0", at("p")), loan(at("p"), "p")), ())

    def test_the_loans_of_instructions_do_not_escape(self):
        program, graph = self.build(give(lend("n")), parameters=(("n", INT), ("p", SHARED)), result=SHARED)
        self.assertEqual(self.shown(program, graph, ("leave", "#0"), loan(at("#0"), 0)), ())

    def test_a_dead_mark_of_a_parameter_shows_both(self):
        program, graph = self.build(give(use("p")), parameters=(("p", SHARED),), result=SHARED)
        self.assertEqual(self.shown(program, graph, ("leave", "#0"), loan(at("#0"), "p", "dead")), ("dead", "escape"))


class TestSeveralProblems(Case):
    def test_no_marks(self):
        program, graph = self.build(show(use("n")), parameters=(("n", INT),))
        for point in range(len(graph.points)):
            self.assertEqual(problems(program, graph, point, []), ())

    def test_they_are_told_once_and_in_order(self):
        program, graph = self.build(
            let("t", spawn("one", seize("n"))), show(use("p", 0, "^")), do(use("p")),
            parameters=(("n", INT), ("p", items(SHARED, INT))))
        instruction = ("copy", "#3", at("p"))
        self.assertEqual(graph.points[self.point_of(graph, instruction)], instruction)
        marks = [
            loan(at("p", 0), 0, "dead"), loan(at("p", 0), "p", "dead"), ("moved", at("p", 1)), ("moved", at("p")),
            ("moved", at("n")), loan(at("t"), 0)]
        self.assertEqual(self.shown(program, graph, instruction, *marks), ("moved", "dead"))
        self.assertEqual(self.shown(program, graph, instruction, *reversed(marks)), ("moved", "dead"))

    def test_moved_dead_and_busy_at_once(self):
        program, graph = self.build(
            let("e", seize("n")), let("t", spawn("one", seize("e", "^"))), show(use("e", "^")),
            parameters=(("n", INT),))
        self.assertEqual(graph.points[2], ("borrow", "#1", "exclusive", at("e", "^")))
        marks = [loan(at("t"), 2), loan(at("e"), 0, "dead"), ("moved", at("e"))]
        self.assertEqual(
            self.shown(program, graph, ("copy", "#3", at("e", "^")), *marks), ("moved", "dead", "busy"))


if __name__ == "__main__":
    unittest.main()
