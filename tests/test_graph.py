import copy
import unittest

from building import (
    BOOL, BOX, EXCLUSIVE, INT, SHARED, TASK, TRUE, UNIT, do, items, lend, let, main, maybe, num, of, record, seize, use,
)
from forklent.errors import ForkError, NoSuchFunction
from forklent.graph import Graph, build_graph
from forklent.kinding import check_kinds

FALSE = ("bool", False)
NOTHING = ("unit",)
RECORDS = (record("Pair", INT, BOX),)
HELPERS = (
    ("one", (("n", INT),), INT, (), (("return", use("n")),)),
    ("none", (), UNIT, (), ()),
    ("pick", (("s", SHARED), ("t", TASK)), items(SHARED, TASK), ("t", "s"), ()),
)


class Case(unittest.TestCase):
    def build(self, *block, parameters=(), result=UNIT, sources=()):
        """The graph of a function `work`, in a program that passes the check of kinds."""
        work = ("work", parameters, result, sources, block)
        program = (RECORDS, HELPERS + (work, main()))
        before = copy.deepcopy(program)
        self.assertIsNone(check_kinds(program))
        graph = build_graph(program, "work")
        self.assertEqual(program, before)
        return graph

    def expect(self, graph, *rows, kinds=None):
        """Each row is an instruction and its successors, as numbers; None is the next point only."""
        self.assertEqual(graph.points, [instruction for instruction, _ in rows])
        wanted = [(at + 1,) if more is None else more for at, (_, more) in enumerate(rows)]
        self.assertEqual(graph.successors, wanted)
        for successors in graph.successors:
            self.assertIs(type(successors), tuple)
        if kinds is not None:
            self.assertEqual(graph.kinds, kinds)

    def lowered(self, expression, *rows, parameters=(), kinds):
        """The rows of an expression whose value is dropped, in a function with parameters and without a result."""
        graph = self.build(do(expression), parameters=parameters)
        last, end = f"#{len(rows) - 1}", f"#{len(rows)}"
        drops = [(("drop", name), None) for name, _ in reversed(parameters)]
        tail = [(("drop", last), None), (("set", end, NOTHING), None), *drops, (("leave", end), ())]
        names = {f"#{at}": kind for at, kind in enumerate(kinds)}
        self.expect(graph, *[(row, None) for row in rows], *tail, kinds={**dict(parameters), **names, end: UNIT})


class TestExpressions(Case):
    def test_literals(self):
        for literal, kind in ((num(7), INT), (TRUE, BOOL), (FALSE, BOOL), (NOTHING, UNIT), (("none", BOX), maybe(BOX))):
            self.lowered(literal, ("set", "#0", literal), kinds=[kind])

    def test_some_and_box(self):
        for word in ("some", "box"):
            kind = maybe(INT) if word == "some" else BOX
            self.lowered((word, num(1)), ("set", "#0", num(1)), ("make", "#1", word, ("#0",)), kinds=[INT, kind])

    def test_a_tuple(self):
        self.lowered(
            ("tuple", (num(1), TRUE, NOTHING)),
            ("set", "#0", num(1)), ("set", "#1", TRUE), ("set", "#2", NOTHING),
            ("make", "#3", "tuple", ("#0", "#1", "#2")), kinds=[INT, BOOL, UNIT, items(INT, BOOL, UNIT)])

    def test_a_record(self):
        self.lowered(
            ("record", "Pair", (num(1), ("box", num(2)))),
            ("set", "#0", num(1)), ("set", "#1", num(2)), ("make", "#2", "box", ("#1",)),
            ("make", "#3", "Pair", ("#0", "#2")), kinds=[INT, INT, BOX, of("Pair")])

    def test_unbox(self):
        self.lowered(
            ("unbox", ("box", num(1))),
            ("set", "#0", num(1)), ("make", "#1", "box", ("#0",)), ("unbox", "#2", "#1"), kinds=[INT, BOX, INT])

    def test_use_of_copy_kinds(self):
        for kind in (INT, BOOL, UNIT, SHARED, maybe(INT), items(INT, SHARED)):
            self.lowered(use("a"), ("copy", "#0", ("a", ())), parameters=(("a", kind),), kinds=[kind])
        for kind, steps in ((BOX, ("^",)), (SHARED, ("^",)), (of("Pair"), ("b", "^")), (items(TASK, INT), (1,))):
            self.lowered(use("a", *steps), ("copy", "#0", ("a", steps)), parameters=(("a", kind),), kinds=[INT])

    def test_use_of_other_kinds(self):
        for kind in (BOX, of("Pair"), EXCLUSIVE, TASK, maybe(BOX), items(INT, TASK)):
            self.lowered(use("a"), ("move", "#0", ("a", ())), parameters=(("a", kind),), kinds=[kind])
        self.lowered(use("a", "b"), ("move", "#0", ("a", ("b",))), parameters=(("a", of("Pair")),), kinds=[BOX])

    def test_borrow(self):
        for form, mode in ((lend, "shared"), (seize, "exclusive")):
            self.lowered(
                form("a", "b", "^"), ("borrow", "#0", mode, ("a", ("b", "^"))),
                parameters=(("a", of("Pair")),), kinds=[(mode, INT)])

    def test_is(self):
        self.lowered(("is", ("a", ())), ("is", "#0", ("a", ())), parameters=(("a", maybe(BOX)),), kinds=[BOOL])

    def test_swap(self):
        self.lowered(
            ("swap", ("a", ("^",)), num(1)),
            ("set", "#0", num(1)), ("swap", "#1", ("a", ("^",)), "#0"), parameters=(("a", BOX),), kinds=[INT, INT])

    def test_operations(self):
        for sign, kind in (("+", INT), ("-", INT), ("*", INT), ("<", BOOL), ("==", BOOL)):
            self.lowered(
                ("op", sign, num(1), num(2)),
                ("set", "#0", num(1)), ("set", "#1", num(2)), ("op", "#2", sign, "#0", "#1"), kinds=[INT, INT, kind])
        for sign in ("and", "or"):
            self.lowered(
                ("op", sign, TRUE, FALSE),
                ("set", "#0", TRUE), ("set", "#1", FALSE), ("op", "#2", sign, "#0", "#1"), kinds=[BOOL] * 3)
        self.lowered(("not", TRUE), ("set", "#0", TRUE), ("not", "#1", "#0"), kinds=[BOOL, BOOL])

    def test_calls_spawns_and_joins(self):
        self.lowered(
            ("call", "one", (num(1),)), ("set", "#0", num(1)), ("call", "#1", "one", ("#0",)), kinds=[INT, INT])
        self.lowered(("call", "none", ()), ("call", "#0", "none", ()), kinds=[UNIT])
        self.lowered(("spawn", "none", ()), ("spawn", "#0", "none", ()), kinds=[("task", UNIT)])
        self.lowered(
            ("join", ("spawn", "one", (num(1),))),
            ("set", "#0", num(1)), ("spawn", "#1", "one", ("#0",)), ("join", "#2", "#1"), kinds=[INT, TASK, INT])
        self.lowered(
            ("call", "pick", (use("a"), use("t"))),
            ("copy", "#0", ("a", ())), ("move", "#1", ("t", ())), ("call", "#2", "pick", ("#0", "#1")),
            parameters=(("a", SHARED), ("t", TASK)), kinds=[SHARED, TASK, items(SHARED, TASK)])

    def test_temporaries_are_created_after_those_of_the_parts(self):
        self.lowered(
            ("op", "-", ("op", "+", num(1), num(2)), ("op", "*", num(3), ("unbox", ("box", num(4))))),
            ("set", "#0", num(1)), ("set", "#1", num(2)), ("op", "#2", "+", "#0", "#1"),
            ("set", "#3", num(3)), ("set", "#4", num(4)), ("make", "#5", "box", ("#4",)), ("unbox", "#6", "#5"),
            ("op", "#7", "*", "#3", "#6"), ("op", "#8", "-", "#2", "#7"),
            kinds=[INT, INT, INT, INT, INT, BOX, INT, INT, INT])

    def test_an_expression_that_is_nested_deep(self):
        expression = num(0)
        for _ in range(45):
            expression = ("unbox", ("box", expression))
        graph = self.build(("return", expression), result=INT)
        self.assertEqual(graph.points[90:], [("unbox", "#90", "#89"), ("leave", "#90"), ("stop",)])


class TestStatements(Case):
    def test_nothing(self):
        self.expect(self.build(), (("set", "#0", NOTHING), None), (("leave", "#0"), ()), kinds={"#0": UNIT})

    def test_nothing_in_a_function_with_a_result(self):
        graph = self.build(parameters=(("a", BOX), ("b", INT)), result=INT)
        self.expect(graph, (("stop",), ()), kinds={"a": BOX, "b": INT})

    def test_let_store_print_do(self):
        graph = self.build(
            let("x", num(1)), ("store", ("x", ()), num(2)), ("print", use("x")), do(use("x")),
            let("y", ("box", use("x"))), ("store", ("y", ("^",)), num(3)))
        self.expect(
            graph,
            (("set", "#0", num(1)), None),
            (("let", "x", "#0"), None),
            (("set", "#1", num(2)), None),
            (("store", ("x", ()), "#1"), None),
            (("copy", "#2", ("x", ())), None),
            (("print", "#2"), None),
            (("copy", "#3", ("x", ())), None),
            (("drop", "#3"), None),
            (("copy", "#4", ("x", ())), None),
            (("make", "#5", "box", ("#4",)), None),
            (("let", "y", "#5"), None),
            (("set", "#6", num(3)), None),
            (("store", ("y", ("^",)), "#6"), None),
            (("drop", "y"), None),
            (("drop", "x"), None),
            (("set", "#7", NOTHING), None),
            (("leave", "#7"), ()),
            kinds={"x": INT, "y": BOX, "#0": INT, "#1": INT, "#2": INT, "#3": INT, "#4": INT, "#5": BOX, "#6": INT,
                   "#7": UNIT})

    def test_if(self):
        graph = self.build(("if", use("c"), (("print", num(1)),), (("print", num(2)),)), parameters=(("c", BOOL),))
        self.expect(
            graph,
            (("copy", "#0", ("c", ())), None),
            (("test", "#0"), (2, 5)),
            (("set", "#1", num(1)), None),
            (("print", "#1"), None),
            (("jump",), (7,)),
            (("set", "#2", num(2)), None),
            (("print", "#2"), None),
            (("set", "#3", NOTHING), None),
            (("drop", "c"), None),
            (("leave", "#3"), ()),
            kinds={"c": BOOL, "#0": BOOL, "#1": INT, "#2": INT, "#3": UNIT})

    def test_if_with_empty_blocks(self):
        empty, full = (), (do(num(1)),)
        rows = ((("set", "#1", num(1)), None), (("drop", "#1"), None))
        self.expect(
            self.build(("if", TRUE, empty, empty), result=INT),
            (("set", "#0", TRUE), None), (("test", "#0"), (2, 3)), (("jump",), (3,)), (("stop",), ()))
        self.expect(
            self.build(("if", TRUE, full, empty), result=INT),
            (("set", "#0", TRUE), None), (("test", "#0"), (2, 5)), *rows, (("jump",), (5,)), (("stop",), ()))
        self.expect(
            self.build(("if", TRUE, empty, full), result=INT),
            (("set", "#0", TRUE), None), (("test", "#0"), (2, 3)), (("jump",), (5,)), *rows, (("stop",), ()))

    def test_while(self):
        graph = self.build(
            let("x", num(0)), ("while", ("op", "<", use("x"), num(3)), (("store", ("x", ()), num(4)),)), result=INT)
        self.expect(
            graph,
            (("set", "#0", num(0)), None),
            (("let", "x", "#0"), None),
            (("copy", "#1", ("x", ())), None),
            (("set", "#2", num(3)), None),
            (("op", "#3", "<", "#1", "#2"), None),
            (("test", "#3"), (6, 9)),
            (("set", "#4", num(4)), None),
            (("store", ("x", ()), "#4"), None),
            (("jump",), (2,)),
            (("drop", "x"), None),
            (("stop",), ()))

    def test_while_with_an_empty_block(self):
        self.expect(
            self.build(("while", TRUE, ()), result=INT),
            (("set", "#0", TRUE), None), (("test", "#0"), (2, 3)), (("jump",), (0,)), (("stop",), ()))

    def test_blocks_in_blocks(self):
        graph = self.build(
            ("while", TRUE, (
                let("x", num(1)),
                ("if", FALSE, (let("y", num(2)), ("while", TRUE, (let("z", num(3)),)), let("w", use("y"))), ()))),
            parameters=(("a", INT),))
        self.assertEqual(graph.points, [
            ("set", "#0", TRUE), ("test", "#0"),
            ("set", "#1", num(1)), ("let", "x", "#1"), ("set", "#2", FALSE), ("test", "#2"),
            ("set", "#3", num(2)), ("let", "y", "#3"), ("set", "#4", TRUE), ("test", "#4"),
            ("set", "#5", num(3)), ("let", "z", "#5"), ("drop", "z"), ("jump",),
            ("copy", "#6", ("y", ())), ("let", "w", "#6"), ("drop", "w"), ("drop", "y"), ("jump",),
            ("drop", "x"), ("jump",),
            ("set", "#7", NOTHING), ("drop", "a"), ("leave", "#7"),
        ])
        self.assertEqual(graph.successors, [
            (1,), (2, 21),
            (3,), (4,), (5,), (6, 19),
            (7,), (8,), (9,), (10, 14),
            (11,), (12,), (13,), (8,),
            (15,), (16,), (17,), (18,), (19,),
            (20,), (0,),
            (22,), (23,), (),
        ])


class TestReturns(Case):
    def test_return_at_the_end(self):
        graph = self.build(("return", use("a")), parameters=(("a", INT), ("b", BOX)), result=INT)
        self.expect(
            graph,
            (("copy", "#0", ("a", ())), None),
            (("drop", "b"), None),
            (("drop", "a"), None),
            (("leave", "#0"), ()),
            (("stop",), ()),
            kinds={"a": INT, "b": BOX, "#0": INT})

    def test_return_drops_the_variables_and_then_the_parameters(self):
        graph = self.build(
            let("x", num(1)), let("y", num(2)), ("return", NOTHING), parameters=(("a", INT), ("b", BOX)))
        self.expect(
            graph,
            (("set", "#0", num(1)), None),
            (("let", "x", "#0"), None),
            (("set", "#1", num(2)), None),
            (("let", "y", "#1"), None),
            (("set", "#2", NOTHING), None),
            (("drop", "y"), None),
            (("drop", "x"), None),
            (("drop", "b"), None),
            (("drop", "a"), None),
            (("leave", "#2"), ()),
            (("drop", "y"), None),
            (("drop", "x"), None),
            (("set", "#3", NOTHING), None),
            (("drop", "b"), None),
            (("drop", "a"), None),
            (("leave", "#3"), ()))

    def test_return_drops_what_is_in_scope_only(self):
        graph = self.build(
            ("if", TRUE, (let("x", num(1)),), ()), ("return", num(2)), let("y", num(3)), result=INT)
        self.expect(
            graph,
            (("set", "#0", TRUE), None),
            (("test", "#0"), (2, 6)),
            (("set", "#1", num(1)), None),
            (("let", "x", "#1"), None),
            (("drop", "x"), None),
            (("jump",), (6,)),
            (("set", "#2", num(2)), None),
            (("leave", "#2"), ()),
            (("set", "#3", num(3)), None),
            (("let", "y", "#3"), None),
            (("drop", "y"), None),
            (("stop",), ()),
            kinds={"x": INT, "y": INT, "#0": BOOL, "#1": INT, "#2": INT, "#3": INT})

    def test_return_in_a_nested_block(self):
        graph = self.build(
            let("x", num(1)),
            ("if", TRUE, (let("y", num(2)), ("return", use("y")), let("z", num(3))), (("return", use("x")),)),
            let("w", num(4)),
            parameters=(("a", INT),), result=INT)
        self.expect(
            graph,
            (("set", "#0", num(1)), None),
            (("let", "x", "#0"), None),
            (("set", "#1", TRUE), None),
            (("test", "#1"), (4, 16)),
            (("set", "#2", num(2)), None),
            (("let", "y", "#2"), None),
            (("copy", "#3", ("y", ())), None),
            (("drop", "y"), None),
            (("drop", "x"), None),
            (("drop", "a"), None),
            (("leave", "#3"), ()),
            (("set", "#4", num(3)), None),
            (("let", "z", "#4"), None),
            (("drop", "z"), None),
            (("drop", "y"), None),
            (("jump",), (20,)),
            (("copy", "#5", ("x", ())), None),
            (("drop", "x"), None),
            (("drop", "a"), None),
            (("leave", "#5"), ()),
            (("set", "#6", num(4)), None),
            (("let", "w", "#6"), None),
            (("drop", "w"), None),
            (("drop", "x"), None),
            (("stop",), ()))

    def test_return_in_a_loop(self):
        graph = self.build(
            ("while", use("a"), (let("x", num(1)), ("return", NOTHING))), parameters=(("a", BOOL),))
        self.assertEqual(graph.points, [
            ("copy", "#0", ("a", ())), ("test", "#0"), ("set", "#1", num(1)), ("let", "x", "#1"),
            ("set", "#2", NOTHING), ("drop", "x"), ("drop", "a"), ("leave", "#2"), ("drop", "x"), ("jump",),
            ("set", "#3", NOTHING), ("drop", "a"), ("leave", "#3"),
        ])
        self.assertEqual(graph.successors, [
            (1,), (2, 10), (3,), (4,), (5,), (6,), (7,), (), (9,), (0,), (11,), (12,), (),
        ])

    def test_return_does_not_drop_what_it_returns(self):
        graph = self.build(let("x", ("box", num(1))), ("return", use("x")), result=BOX)
        self.assertEqual(graph.points[3:], [
            ("move", "#2", ("x", ())), ("drop", "x"), ("leave", "#2"), ("drop", "x"), ("stop",)])


class TestGraph(Case):
    def test_the_attributes(self):
        program = (RECORDS, HELPERS + (main(),))
        graph = build_graph(program, "pick")
        self.assertIs(type(graph), Graph)
        self.assertEqual(graph.name, "pick")
        self.assertEqual(graph.parameters, ("s", "t"))
        self.assertEqual(graph.sources, ("t", "s"))
        self.assertEqual(graph.result, items(SHARED, TASK))
        self.assertEqual(graph.kinds, {"s": SHARED, "t": TASK})
        self.assertEqual(graph.points, [("stop",)])
        self.assertEqual(graph.successors, [()])
        for values, wanted in (((graph.name,), str), ((graph.kinds,), dict), ((graph.points, graph.successors), list),
                               ((graph.parameters, graph.sources, graph.result), tuple)):
            for value in values:
                self.assertIs(type(value), wanted)

    def test_each_graph_is_its_own(self):
        program = (RECORDS, HELPERS + (main(),))
        first, second = build_graph(program, "one"), build_graph(program, "one")
        first.points.append(None)
        first.successors.append(None)
        first.kinds["x"] = None
        self.assertEqual(second.points, [("copy", "#0", ("n", ())), ("drop", "n"), ("leave", "#0"), ("stop",)])
        self.assertEqual(second.successors, [(1,), (2,), (), ()])
        self.assertEqual(second.kinds, {"n": INT, "#0": INT})

    def test_each_function_has_its_own_temporaries(self):
        program = (RECORDS, HELPERS + (main(do(num(1))),))
        build_graph(program, "one")
        self.assertEqual(build_graph(program, "main").points[0], ("set", "#0", num(1)))

    def test_kinds_have_nothing_else(self):
        graph = self.build(
            let("x", num(1)), ("while", TRUE, (let("y", ("some", lend("x"))), ("return", NOTHING), let("z", use("y")))),
            parameters=(("a", TASK),))
        self.assertEqual(graph.kinds, {
            "a": TASK, "x": INT, "y": maybe(SHARED), "z": maybe(SHARED),
            "#0": INT, "#1": BOOL, "#2": SHARED, "#3": maybe(SHARED), "#4": UNIT, "#5": maybe(SHARED), "#6": UNIT})

    def test_every_successor_is_a_point(self):
        graph = self.build(
            ("while", TRUE, (("if", FALSE, (("while", TRUE, ()),), (("return", NOTHING),)),)), ("if", TRUE, (), ()))
        self.assertEqual(len(graph.points), len(graph.successors))
        for successors in graph.successors:
            for point in successors:
                self.assertIn(point, range(len(graph.points)))

    def test_the_example_of_the_document(self):
        self.assertEqual(build_graph(EXAMPLE, "add").points, [
            ("copy", "#0", ("r", ("^",))), ("copy", "#1", ("n", ())), ("op", "#2", "+", "#0", "#1"),
            ("store", ("r", ("^",)), "#2"), ("copy", "#3", ("r", ("^",))), ("drop", "n"), ("drop", "r"),
            ("leave", "#3"), ("stop",),
        ])
        graph = build_graph(EXAMPLE, "main")
        self.assertEqual(graph.points, [
            ("copy", "#0", ("a", ())), ("set", "#1", num(10)), ("make", "#2", "tuple", ("#0", "#1")),
            ("let", "x", "#2"),
            ("borrow", "#3", "exclusive", ("x", (0,))), ("set", "#4", num(1)), ("spawn", "#5", "add", ("#3", "#4")),
            ("let", "s", "#5"),
            ("borrow", "#6", "exclusive", ("x", (1,))), ("set", "#7", num(2)), ("spawn", "#8", "add", ("#6", "#7")),
            ("let", "t", "#8"),
            ("move", "#9", ("s", ())), ("join", "#10", "#9"), ("print", "#10"),
            ("copy", "#11", ("x", (0,))), ("print", "#11"),
            ("move", "#12", ("t", ())), ("join", "#13", "#12"),
            ("drop", "t"), ("drop", "s"), ("drop", "x"), ("drop", "a"), ("leave", "#13"),
            ("drop", "t"), ("drop", "s"), ("drop", "x"), ("stop",),
        ])
        self.assertEqual(graph.successors, [(at + 1,) for at in range(23)] + [()] + [(25,), (26,), (27,), ()])
        self.assertEqual(graph.kinds, {
            "a": INT, "x": items(INT, INT), "s": TASK, "t": TASK, "#0": INT, "#1": INT, "#2": items(INT, INT),
            "#3": EXCLUSIVE, "#4": INT, "#5": TASK, "#6": EXCLUSIVE, "#7": INT, "#8": TASK, "#9": TASK, "#10": INT,
            "#11": INT, "#12": TASK, "#13": INT})


class TestNoSuchFunction(unittest.TestCase):
    def test_a_name_that_no_function_has(self):
        program = (RECORDS, HELPERS + (main(),))
        for name in ("nowhere", "Pair", "a", "n", "", "#0", "ones", "on"):
            with self.assertRaises(ForkError) as caught:
                build_graph(program, name)
            self.assertIs(type(caught.exception), NoSuchFunction)
            self.assertEqual(caught.exception.name, name)

    def test_every_function_has_a_graph(self):
        program = (RECORDS, HELPERS + (main(),))
        for name in ("one", "none", "pick", "main"):
            self.assertEqual(build_graph(program, name).name, name)


EXAMPLE = (((), (
    ("add", (("r", EXCLUSIVE), ("n", INT)), INT, (), (
        ("store", ("r", ("^",)), ("op", "+", use("r", "^"), use("n"))), ("return", use("r", "^")))),
    ("main", (("a", INT),), INT, (), (
        let("x", ("tuple", (use("a"), num(10)))),
        let("s", ("spawn", "add", (seize("x", 0), num(1)))),
        let("t", ("spawn", "add", (seize("x", 1), num(2)))),
        ("print", ("join", use("s"))),
        ("print", use("x", 0)),
        ("return", ("join", use("t"))))))))


if __name__ == "__main__":
    unittest.main()
