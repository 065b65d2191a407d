import copy
import unittest

from building import (
    BOX, EXCLUSIVE, INT, SHARED, TASK, TRUE, UNIT, at, call, do, give, items, join, lend, let, main, maybe, num, of,
    op, record, seize, show, spawn, store, use,
)
from forklent.checker import check_function, check_program
from forklent.errors import ForkError, NoSuchFunction
from forklent.graph import build_graph
from forklent.kinding import check_kinds
from forklent.marks import first_marks, new_marks, pass_mark, problems
from generating import ANY_PROBLEM, random_program

RECORDS = (record("Pair", INT, BOX),)
FUNCTIONS = (
    ("one", (("e", EXCLUSIVE),), INT, (), (store(at("e", "^"), num(1)), give(use("e", "^")))),
    ("see", (("s", SHARED),), INT, (), (give(use("s", "^")),)),
    ("eat", (("x", BOX),), UNIT, (), ()),
    ("pick", (("p", SHARED), ("q", SHARED)), SHARED, ("q",), (give(use("q")),)),
    ("send", (("e", EXCLUSIVE),), TASK, ("e",), (give(spawn("one", use("e"))),)),
)
NEVER = ("bool", False)


def marks_after(program, graph, path):
    """The marks at the last point of a path, from the words of the document."""
    marks = set(first_marks(program, graph))
    for point in path[:-1]:
        marks = {other for mark in marks for other in pass_mark(program, graph, point, mark)}
        marks.update(new_marks(program, graph, point))
    return marks


def shortest_path_length(program, graph):
    """How many points the shortest paths have that show a problem, or None; all paths are tried."""
    layer = {(0, frozenset(first_marks(program, graph)))}
    seen = set(layer)
    length = 1
    while layer:
        following = set()
        for point, marks in layer:
            if problems(program, graph, point, list(marks)):
                return length
            after = {other for mark in marks for other in pass_mark(program, graph, point, mark)}
            after.update(new_marks(program, graph, point))
            following.update((successor, frozenset(after)) for successor in graph.successors[point])
        layer = following - seen
        seen |= layer
        length += 1
    return None


class Case(unittest.TestCase):
    def program(self, *block, parameters=(), result=UNIT, sources=()):
        function = ("under", parameters, result, sources, tuple(block))
        program = (RECORDS, FUNCTIONS + (function, main()))
        self.assertIsNone(check_kinds(program))
        return program

    def accept(self, *block, **more):
        program = self.program(*block, **more)
        before = copy.deepcopy(program)
        self.assertIsNone(check_function(program, "under"))
        self.assertIsNone(check_program(program))
        self.assertEqual(program, before)

    def refuse(self, reason, instruction, *block, **more):
        """The path shows the reason at an instruction, and there is no shorter one that shows a problem."""
        program = self.program(*block, **more)
        before = copy.deepcopy(program)
        found = check_function(program, "under")
        self.assertEqual(program, before)
        self.assertIs(type(found), tuple)
        self.assertEqual(found[0], reason)
        graph = build_graph(program, "under")
        self.check_path(program, graph, *found)
        self.assertEqual(graph.points[found[1][-1]], instruction)
        self.assertEqual(check_program(program), ("under", *found))
        return found[1]

    def check_path(self, program, graph, reason, path):
        self.assertIs(type(path), tuple)
        self.assertEqual(path[0], 0)
        for point, successor in zip(path, path[1:]):
            self.assertIn(successor, graph.successors[point])
        self.assertIn(reason, problems(program, graph, path[-1], list(marks_after(program, graph, path))))
        self.assertEqual(len(path), shortest_path_length(program, graph))


class TestAccepted(Case):
    def test_functions_without_borrows(self):
        self.accept()
        self.accept(let("x", num(1)), show(use("x")), parameters=(("y", BOX),))
        self.accept(give(num(1)), result=INT)
        self.accept(result=INT)

    def test_boxes_that_are_moved_once(self):
        self.accept(let("y", use("x")), show(use("y", "^")), parameters=(("x", BOX),))
        self.accept(let("y", use("x")), store(at("x"), ("box", num(1))), show(use("x", "^")), parameters=(("x", BOX),))
        self.accept(("if", TRUE, (do(use("x")),), (do(use("x")),)), parameters=(("x", BOX),))
        self.accept(do(use("p", "b")), show(use("p", "a")), parameters=(("p", of("Pair")),))

    def test_borrows_that_end_in_time(self):
        self.accept(let("r", seize("n")), store(at("r", "^"), num(1)), show(use("n")), parameters=(("n", INT),))
        self.accept(let("r", lend("n")), show(use("n")), show(use("r", "^")), parameters=(("n", INT),))
        self.accept(let("r", seize("p", 0)), show(use("p", 1)), store(at("r", "^"), num(1)),
                    parameters=(("p", items(INT, INT)),))

    def test_a_second_borrow_through_the_first(self):
        self.accept(
            let("q", seize("e", "^")), store(at("q", "^"), num(1)), store(at("e", "^"), num(2)),
            parameters=(("e", EXCLUSIVE),))
        # The borrow q stays good when e is stored to: it refers to what e referred to before.
        self.accept(
            let("q", seize("e", "^")), store(at("e"), use("f")), store(at("q", "^"), num(1)), show(use("e", "^")),
            parameters=(("e", EXCLUSIVE), ("f", EXCLUSIVE)))

    def test_a_row_of_boxes_is_walked_with_one_borrow(self):
        row = ("Row", (("n", INT), ("more", maybe(("box", of("Row"))))))
        walk = ("walk", (("r", ("exclusive", of("Row"))),), UNIT, (), (
            ("while", ("is", at("r", "^", "more")), (
                store(at("r", "^", "n"), num(0)),
                store(at("r"), seize("r", "^", "more", "?", "^")))),))
        program = ((row,), (walk, main()))
        self.assertIsNone(check_kinds(program))
        self.assertIsNone(check_program(program))

    def test_threads(self):
        self.accept(
            let("t", spawn("one", seize("p", 0))), let("u", spawn("one", seize("p", 1))), show(join(use("t"))),
            show(use("p", 0)), parameters=(("p", items(INT, INT)),))
        self.accept(
            let("t", spawn("see", lend("n"))), let("u", spawn("see", lend("n"))), show(use("n")),
            parameters=(("n", INT),))
        # The task is dropped before the variable that its thread has.
        self.accept(let("n", num(1)), let("t", spawn("one", seize("n"))))
        self.accept(let("t", call("send", seize("n"))), show(join(use("t"))), show(use("n")), parameters=(("n", INT),))

    def test_a_source_may_leave(self):
        self.accept(give(use("e")), parameters=(("e", EXCLUSIVE),), result=EXCLUSIVE, sources=("e",))
        self.accept(give(lend("e", "^")), parameters=(("e", EXCLUSIVE),), result=SHARED, sources=("e",))


class TestMoved(Case):
    def test_a_second_move(self):
        path = self.refuse("moved", ("move", "#1", at("x")), do(use("x")), do(use("x")), parameters=(("x", BOX),))
        self.assertEqual(path, (0, 1, 2))

    def test_parts_and_what_contains_them(self):
        pair = (("p", of("Pair")),)
        self.refuse("moved", ("move", "#1", at("p")), do(use("p", "b")), do(use("p")), parameters=pair)
        self.refuse("moved", ("move", "#1", at("p", "b")), do(use("p")), do(use("p", "b")), parameters=pair)
        self.refuse("moved", ("copy", "#1", at("p", "a")), do(use("p")), show(use("p", "a")), parameters=pair)
        self.refuse("moved", ("borrow", "#1", "shared", at("p")), do(use("p", "b")), do(lend("p")), parameters=pair)

    def test_a_store_into_what_was_moved(self):
        self.refuse(
            "moved", ("store", at("p", "b"), "#2"), do(use("p")), store(at("p", "b"), ("box", num(1))),
            parameters=(("p", of("Pair")),))
        self.refuse(
            "moved", ("store", at("x", "^"), "#1"), do(use("x")), store(at("x", "^"), num(1)), parameters=(("x", BOX),))

    def test_on_the_second_pass_through_a_loop(self):
        path = self.refuse(
            "moved", ("move", "#1", at("x")), ("while", TRUE, (do(use("x")),)), parameters=(("x", BOX),))
        self.assertEqual(path, (0, 1, 2, 3, 4, 0, 1, 2))

    def test_on_one_branch_only(self):
        program = (("if", TRUE, (do(use("x")),), (show(num(1)),)), do(use("x")))
        self.refuse("moved", ("move", "#3", at("x")), *program, parameters=(("x", BOX),))
        program = (("if", TRUE, (), (do(use("x")),)), do(use("x")))
        path = self.refuse("moved", ("move", "#2", at("x")), *program, parameters=(("x", BOX),))
        self.assertNotIn(2, path)

    def test_behind_blocks_within_blocks(self):
        inner = ("if", TRUE, (("while", TRUE, (("if", NEVER, (do(use("x")),), ()),)),), ())
        self.refuse("moved", ("move", "#3", at("x")), inner, parameters=(("x", BOX),))

    def test_a_condition_that_is_never_true_counts(self):
        self.refuse("moved", ("move", "#2", at("x")), ("if", NEVER, (do(use("x")),), ()), do(use("x")),
                    parameters=(("x", BOX),))


class TestDead(Case):
    def test_a_read_of_what_is_borrowed_exclusively(self):
        path = self.refuse(
            "dead", ("store", at("r", "^"), "#2"), let("r", seize("n")), show(use("n")), store(at("r", "^"), num(1)),
            parameters=(("n", INT),))
        self.assertEqual(path, (0, 1, 2, 3, 4, 5))

    def test_a_store_to_what_is_borrowed(self):
        self.refuse(
            "dead", ("copy", "#2", at("r", "^")), let("r", lend("n")), store(at("n"), num(1)), show(use("r", "^")),
            parameters=(("n", INT),))

    def test_a_box_that_is_moved_away(self):
        self.refuse(
            "dead", ("copy", "#2", at("r", "^")), let("r", lend("x", "^")), do(use("x")), show(use("r", "^")),
            parameters=(("x", BOX),))

    def test_two_exclusive_borrows(self):
        self.refuse(
            "dead", ("copy", "#2", at("r", "^")), let("r", seize("n")), let("q", seize("n")), show(use("r", "^")),
            parameters=(("n", INT),))

    def test_a_variable_that_does_not_live_long_enough(self):
        self.refuse(
            "dead", ("copy", "#5", at("m")), let("m", ("none", SHARED)),
            ("if", TRUE, (let("n", num(1)), store(at("m"), ("some", lend("n")))), ()), do(use("m")))
        self.refuse("dead", ("leave", "#0"), give(lend("n")), parameters=(("n", INT),), result=SHARED)

    def test_what_a_function_gives_back_is_what_its_sources_were(self):
        calls = (let("r", call("pick", lend("n"), lend("k"))),)
        parameters = (("n", INT), ("k", INT))
        self.refuse("dead", ("copy", "#4", at("r", "^")), *calls, store(at("k"), num(1)), show(use("r", "^")),
                    parameters=parameters)
        self.accept(*calls, store(at("n"), num(1)), show(use("r", "^")), parameters=parameters)

    def test_on_the_second_pass_through_a_loop(self):
        block = (
            let("m", ("none", EXCLUSIVE)),
            ("while", TRUE, (("if", ("is", at("m")), (show(use("m", "?", "^")),), ()), store(at("n"), num(1)),
                             store(at("m"), ("some", seize("n"))), store(at("n"), num(2)))))
        path = self.refuse("dead", ("copy", "#3", at("m", "?", "^")), *block, parameters=(("n", INT),))
        self.assertGreater(len(path), len(set(path)))


class TestBusy(Case):
    def test_each_access(self):
        started = let("t", spawn("one", seize("n")))
        for instruction, statement in (
                (("copy", "#2", at("n")), show(use("n"))), (("borrow", "#2", "shared", at("n")), do(lend("n"))),
                (("borrow", "#2", "exclusive", at("n")), do(seize("n"))),
                (("store", at("n"), "#2"), store(at("n"), num(1))),
                (("swap", "#3", at("n"), "#2"), show(("swap", at("n"), num(1))))):
            self.refuse("busy", instruction, started, statement, parameters=(("n", INT),))
        self.refuse(
            "busy", ("move", "#2", at("x")), let("t", spawn("one", seize("x", "^"))), do(use("x")),
            parameters=(("x", BOX),))
        self.refuse(
            "busy", ("is", "#2", at("m")), let("t", spawn("one", seize("m", "?"))), do(("is", at("m"))),
            parameters=(("m", maybe(INT)),))

    def test_the_example_of_the_document_with_two_statements_exchanged(self):
        path = self.refuse(
            "busy", ("copy", "#9", at("x", 0)),
            let("x", ("tuple", (num(5), num(10)))), let("s", spawn("one", seize("x", 0))), let("z", num(1)),
            let("t", spawn("one", seize("x", 1))), show(num(0)), show(use("x", 0)), show(join(use("s"))))
        self.assertEqual(path, tuple(range(len(path))))

    def test_a_variable_that_ends_before_the_thread(self):
        self.refuse(
            "busy", ("drop", "n"), let("m", ("none", TASK)),
            ("if", TRUE, (let("n", num(1)), store(at("m"), ("some", spawn("one", seize("n"))))), ()))

    def test_a_thread_that_is_started_by_a_function_that_is_called(self):
        self.refuse("busy", ("copy", "#2", at("n")), let("t", call("send", seize("n"))), show(use("n")),
                    parameters=(("n", INT),))

    def test_threads_in_a_loop(self):
        # The second thread would get what the first one still has.
        path = self.refuse(
            "busy", ("borrow", "#2", "exclusive", at("n")), let("m", ("none", TASK)),
            ("while", TRUE, (store(at("m"), ("some", spawn("one", seize("n")))),)), parameters=(("n", INT),))
        self.assertEqual(len(path) - len(set(path)), 3)
        self.accept(
            let("m", ("none", TASK)),
            ("while", TRUE, (store(at("m"), ("none", TASK)), store(at("m"), ("some", spawn("one", seize("n")))))),
            parameters=(("n", INT),))

    def test_a_store_that_waits(self):
        pair = ("tuple", (num(1), ("none", TASK)))
        block = (let("p", pair), store(at("p", 1), ("some", spawn("one", seize("p", 0)))))
        self.accept(*block, store(at("p"), pair))
        self.refuse("busy", ("store", at("p", 0), "#6"), *block, store(at("p", 0), num(1)))


class TestEscape(Case):
    def test_a_parameter_that_is_no_source(self):
        path = self.refuse(
            "escape", ("leave", "#0"), give(use("p")), parameters=(("q", SHARED), ("p", SHARED)), result=SHARED,
            sources=("q",))
        self.assertEqual(path, (0, 1, 2, 3))

    def test_a_task_with_the_borrow(self):
        self.refuse(
            "escape", ("leave", "#1"), give(spawn("one", use("e"))), parameters=(("e", EXCLUSIVE),), result=TASK)

    def test_on_one_branch_only(self):
        self.refuse(
            "escape", ("leave", "#2"), ("if", TRUE, (give(use("q")),), (give(use("p")),)),
            parameters=(("q", SHARED), ("p", SHARED)), result=SHARED, sources=("q",))


class TestPaths(Case):
    def test_the_shorter_of_two(self):
        path = self.refuse(
            "moved", ("move", "#5", at("y")),
            ("if", TRUE, (show(num(1)), do(use("x")), do(use("x"))), (do(use("y")), do(use("y")))),
            parameters=(("x", BOX), ("y", BOX)))
        self.assertEqual(path[:3], (0, 1, 9))

    def test_random_functions(self):
        refused = 0
        for seed in range(60):
            program = random_program(seed, ANY_PROBLEM)
            for function in program[1]:
                graph = build_graph(program, function[0])
                found = check_function(program, function[0])
                if found is None:
                    self.assertIsNone(shortest_path_length(program, graph), seed)
                else:
                    self.check_path(program, graph, *found)
                    refused += 1
        self.assertGreater(refused, 60)


class TestPrograms(Case):
    def test_the_first_function_with_a_problem_is_told(self):
        bad = (do(use("x")), do(use("x")))
        late = (do(use("x")), show(num(1)), do(use("x")))
        good = ("good", (), UNIT, (), ())
        for block, other in ((bad, late), (late, bad)):
            program = ((), (good, ("zz", (("x", BOX),), UNIT, (), block), ("aa", (("x", BOX),), UNIT, (), other),
                main()))
            self.assertIsNone(check_kinds(program))
            found = check_program(program)
            self.assertEqual(found[0], "zz")
            self.assertEqual(found[1:], check_function(program, "zz"))
            self.assertEqual(check_function(program, "aa")[0], "moved")
            self.assertIsNone(check_function(program, "good"))
            self.assertIsNone(check_function(program, "main"))

    def test_main_can_be_the_one(self):
        program = ((), (main(let("x", ("box", num(1))), do(use("x")), do(use("x"))),))
        self.assertIsNone(check_kinds(program))
        self.assertEqual(check_program(program)[:2], ("main", "moved"))

    def test_a_function_is_looked_at_alone(self):
        # The function that is called has a problem; the one that calls it has none.
        program = ((), (
            main(do(call("bad", ("box", num(1))))), ("bad", (("x", BOX),), UNIT, (), (do(use("x")), do(use("x"))))))
        self.assertIsNone(check_kinds(program))
        self.assertIsNone(check_function(program, "main"))
        self.assertEqual(check_program(program)[0], "bad")

    def test_unknown_functions(self):
        program = self.program(let("x", op("+", num(1), num(2))))
        for name in ("nope", "x", "Pair", "#0", ""):
            with self.assertRaises(ForkError) as caught:
                check_function(program, name)
            self.assertIs(type(caught.exception), NoSuchFunction)
            self.assertEqual(caught.exception.name, name)


if __name__ == "__main__":
    unittest.main()
