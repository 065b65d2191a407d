import copy
import unittest

from building import (
    BOOL, BOX, EXCLUSIVE, INT, SHARED, TASK, TRUE, UNIT, box, do, items, lend, let, main, maybe, num, of, record, seize,
    use,
)
from forklent.effects import access, clears, moves, uses
from forklent.graph import build_graph
from forklent.kinding import check_kinds

NOTHING = ("unit",)
RECORDS = (record("Pair", INT, BOX),)
# Kinds with no leaf, one leaf and several leaves, with the paths of the leaves.
COPIED = (
    (INT, ()), (maybe(INT), ()), (items(INT, BOOL), ()), (SHARED, ((),)), (maybe(SHARED), (("?",),)),
    (items(INT, SHARED, maybe(SHARED)), ((1,), (2, "?"))),
)
MOVED = (
    (BOX, ()), (of("Pair"), ()), (TASK, ((),)), (EXCLUSIVE, ((),)), (maybe(TASK), (("?",),)),
    (items(BOX, EXCLUSIVE), ((1,),)),
    (items(maybe(items(SHARED, TASK)), INT, EXCLUSIVE), ((0, "?", 0), (0, "?", 1), (2,))),
)
TWO = items(SHARED, maybe(TASK))
FUNCTIONS = (
    ("one", (("n", INT),), INT, (), ()),
    ("none", (), UNIT, (), ()),
    ("pick", (("p", SHARED), ("q", SHARED)), SHARED, ("q",), ()),
    ("both", (("p", SHARED), ("n", INT), ("q", TWO)), items(SHARED, TASK), ("q", "p"), ()),
    ("hide", (("p", SHARED), ("q", TWO)), items(SHARED, TASK), (), ()),
    ("burn", (("p", SHARED), ("q", TWO)), INT, ("p", "q"), ()),
    ("work", (("p", SHARED), ("q", TWO)), of("Pair"), ("p",), ()),
)


def at(variable, *steps):
    return (variable, steps)


class Case(unittest.TestCase):
    def build(self, block, parameters=(), result=UNIT):
        function = ("under", parameters, result, (), tuple(block))
        program = (RECORDS, FUNCTIONS + (function, main()))
        self.assertIsNone(check_kinds(program))
        return program, build_graph(program, "under")

    def effects(self, program, graph, point):
        """The four answers; leaves and pairs in ascending order of their text."""
        before = copy.deepcopy((program, vars(graph)))
        found = (uses(program, graph, point), access(program, graph, point), moves(program, graph, point),
                 clears(program, graph, point))
        self.assertEqual((program, vars(graph)), before)
        for answer in (found[0], found[2], found[3]):
            self.assertIs(type(answer), tuple)
            self.assertEqual(len(set(answer)), len(answer))
        return (sorted(found[0], key=repr), found[1], sorted(found[2], key=repr), sorted(found[3], key=repr))

    def expect(self, instruction, block, *, parameters=(), result=UNIT, used=(), accessed=None, moved=(), cleared=()):
        """Check the answers for an instruction, which stands at one point of the graph at least."""
        program, graph = self.build(block, parameters, result)
        points = [point for point, row in enumerate(graph.points) if row == instruction]
        self.assertNotEqual(points, [], graph.points)
        wanted = (sorted(used, key=repr), accessed, sorted(moved, key=repr), sorted(cleared, key=repr))
        for point in points:
            self.assertEqual(self.effects(program, graph, point), wanted)


def leaves_at(place, paths):
    return [(place[0], place[1] + path) for path in paths]


class TestCopy(Case):
    def test_a_whole_variable(self):
        for kind, paths in COPIED:
            self.expect(
                ("copy", "#0", at("a")), [do(use("a"))], parameters=(("a", kind),), used=leaves_at(at("a"), paths),
                accessed=("read", at("a")),
                moved=[(("a", path), ("#0", path)) for path in paths])

    def test_a_part_of_a_variable(self):
        for kind, paths in COPIED:
            parameters = (("a", maybe(items(TASK, kind))),)
            self.expect(
                ("copy", "#0", at("a", "?", 1)), [do(use("a", "?", 1))], parameters=parameters,
                used=leaves_at(at("a", "?", 1), paths), accessed=("read", at("a", "?", 1)),
                moved=[(("a", ("?", 1) + path), ("#0", path)) for path in paths])

    def test_across_a_borrow(self):
        for word in ("shared", "exclusive"):
            kind = maybe(items(INT, (word, of("Pair"))))
            place = at("a", "?", 1, "^", "b", "^")
            self.expect(
                ("copy", "#0", place), [do(use("a", *place[1]))], parameters=(("a", kind),),
                used=[at("a", "?", 1)], accessed=("read", place))

    def test_out_of_a_box(self):
        self.expect(
            ("copy", "#0", at("a", "^")), [do(use("a", "^"))], parameters=(("a", BOX),),
            accessed=("read", at("a", "^")))


class TestMove(Case):
    def test_a_whole_variable(self):
        for kind, paths in MOVED:
            self.expect(
                ("move", "#0", at("a")), [do(use("a"))], parameters=(("a", kind),), used=leaves_at(at("a"), paths),
                accessed=("move", at("a")), moved=[(("a", path), ("#0", path)) for path in paths],
                cleared=leaves_at(at("a"), paths))

    def test_a_part_of_a_variable(self):
        for kind, paths in MOVED:
            parameters = (("a", items(SHARED, kind)),)
            self.expect(
                ("move", "#0", at("a", 1)), [do(use("a", 1))], parameters=parameters,
                used=leaves_at(at("a", 1), paths), accessed=("move", at("a", 1)),
                moved=[(("a", (1,) + path), ("#0", path)) for path in paths],
                cleared=leaves_at(at("a", 1), paths))

    def test_a_payload(self):
        self.expect(
            ("move", "#0", at("a", "?")), [do(use("a", "?"))], parameters=(("a", maybe(TWO)),),
            used=[at("a", "?", 0), at("a", "?", 1, "?")], accessed=("move", at("a", "?")),
            moved=[(at("a", "?", 0), at("#0", 0)), (at("a", "?", 1, "?"), at("#0", 1, "?"))],
            cleared=[at("a", "?", 0), at("a", "?", 1, "?")])

    def test_a_field(self):
        self.expect(
            ("move", "#0", at("a", "b")), [do(use("a", "b"))], parameters=(("a", of("Pair")),),
            accessed=("move", at("a", "b")))


class TestBorrow(Case):
    def test_what_crosses_nothing(self):
        for kind, steps in ((INT, ()), (BOX, ("^",)), (of("Pair"), ("b", "^")), (items(TASK, maybe(INT)), (1, "?"))):
            for form, mode, access_mode in ((lend, "shared", "read"), (seize, "exclusive", "write")):
                self.expect(
                    ("borrow", "#0", mode, ("a", steps)), [do(form("a", *steps))], parameters=(("a", kind),),
                    accessed=(access_mode, ("a", steps)))

    def test_across_an_exclusive_borrow(self):
        for form, mode, access_mode in ((lend, "shared", "read"), (seize, "exclusive", "write")):
            for kind, leaf in ((EXCLUSIVE, ()), (maybe(items(TASK, EXCLUSIVE)), ("?", 1))):
                place = ("a", leaf + ("^",))
                self.expect(
                    ("borrow", "#0", mode, place), [do(form("a", *place[1]))], parameters=(("a", kind),),
                    used=[("a", leaf)], accessed=(access_mode, place), moved=[(("a", leaf), at("#0"))])

    def test_across_a_shared_borrow(self):
        place = at("a", 1, "^", "b", "^")
        self.expect(
            ("borrow", "#0", "shared", place), [do(lend("a", *place[1]))],
            parameters=(("a", items(INT, ("shared", of("Pair")))),),
            used=[at("a", 1)], accessed=("read", place), moved=[(at("a", 1), at("#0"))])


class TestIs(Case):
    def test_what_crosses_nothing(self):
        for kind in (maybe(INT), maybe(TASK), maybe(items(SHARED, TASK))):
            self.expect(
                ("is", "#0", at("a")), [do(("is", at("a")))], parameters=(("a", kind),), accessed=("read", at("a")))

    def test_across_a_borrow(self):
        for word in ("shared", "exclusive"):
            place = at("a", 0, "^")
            self.expect(
                ("is", "#0", place), [do(("is", place))], parameters=(("a", items((word, maybe(INT)), TASK)),),
                used=[at("a", 0)], accessed=("read", place))


class TestMake(Case):
    def test_some(self):
        for kind, paths in COPIED + MOVED:
            self.expect(
                ("make", "#1", "some", ("#0",)), [do(("some", use("a")))], parameters=(("a", kind),),
                used=leaves_at(at("#0"), paths), cleared=leaves_at(at("#0"), paths),
                moved=[(("#0", path), ("#1", ("?",) + path)) for path in paths])

    def test_a_tuple(self):
        for kind, paths in COPIED + MOVED:
            self.expect(
                ("make", "#3", "tuple", ("#0", "#1", "#2")), [do(("tuple", (use("b"), num(1), use("a"))))],
                parameters=(("a", kind), ("b", TASK)),
                used=[at("#0"), *leaves_at(at("#2"), paths)], cleared=[at("#0"), *leaves_at(at("#2"), paths)],
                moved=[(at("#0"), at("#3", 0)), *[(("#2", path), ("#3", (2,) + path)) for path in paths]])

    def test_a_box_and_a_record(self):
        self.expect(("make", "#1", "box", ("#0",)), [do(("box", num(1)))])
        self.expect(
            ("make", "#1", "box", ("#0",)), [do(("box", use("a")))], parameters=(("a", items(BOX, of("Pair"))),))
        self.expect(
            ("make", "#2", "Pair", ("#0", "#1")), [do(("record", "Pair", (num(1), use("a"))))],
            parameters=(("a", BOX),))


class TestLet(Case):
    def test_every_kind(self):
        for kind, paths in COPIED + MOVED:
            both = [*leaves_at(at("#0"), paths), *leaves_at(at("x"), paths)]
            self.expect(
                ("let", "x", "#0"), [let("x", use("a"))], parameters=(("a", kind),), used=leaves_at(at("#0"), paths),
                moved=[(("#0", path), ("x", path)) for path in paths], cleared=both)


class TestStore(Case):
    def test_every_kind(self):
        for kind, paths in COPIED + MOVED:
            self.expect(
                ("store", at("b"), "#0"), [("store", at("b"), use("a"))], parameters=(("a", kind), ("b", kind)),
                used=leaves_at(at("#0"), paths), accessed=("store", at("b")),
                moved=[(("#0", path), ("b", path)) for path in paths],
                cleared=[*leaves_at(at("#0"), paths), *leaves_at(at("b"), paths)])

    def test_a_part_of_a_variable(self):
        for kind, paths in COPIED + MOVED:
            place = at("b", 1)
            self.expect(
                ("store", place, "#0"), [("store", place, use("a"))],
                parameters=(("a", kind), ("b", items(TASK, kind))),
                used=leaves_at(at("#0"), paths), accessed=("store", place),
                moved=[(("#0", path), ("b", (1,) + path)) for path in paths],
                cleared=[*leaves_at(at("#0"), paths), *leaves_at(place, paths)])

    def test_across_a_borrow(self):
        place = at("a", 1, "^", "b")
        self.expect(
            ("store", place, "#1"), [("store", place, ("box", num(1)))],
            parameters=(("a", items(TASK, ("exclusive", of("Pair")))),), used=[at("a", 1)], accessed=("store", place))

    def test_into_a_box(self):
        self.expect(
            ("store", at("a", "^"), "#0"), [("store", at("a", "^"), num(1))], parameters=(("a", BOX),),
            accessed=("store", at("a", "^")))


class TestSwap(Case):
    def test_what_crosses_nothing(self):
        for kind, steps in ((INT, ()), (BOX, ("^",)), (of("Pair"), ("a",)), (items(TASK, INT), (1,))):
            self.expect(
                ("swap", "#1", ("a", steps), "#0"), [do(("swap", ("a", steps), num(1)))], parameters=(("a", kind),),
                accessed=("write", ("a", steps)))

    def test_across_a_borrow(self):
        place = at("a", "?", 1, "^", "b", "^")
        self.expect(
            ("swap", "#1", place, "#0"), [do(("swap", place, num(1)))],
            parameters=(("a", maybe(items(TASK, ("exclusive", of("Pair"))))),), used=[at("a", "?", 1)],
            accessed=("write", place))


class TestCall(Case):
    PARAMETERS = (("a", SHARED), ("b", TWO), ("c", SHARED))

    def test_without_leaves(self):
        self.expect(("call", "#0", "none", ()), [do(("call", "none", ()))])
        self.expect(("call", "#1", "one", ("#0",)), [do(("call", "one", (num(1),)))])

    def test_only_sources_reach_the_answer(self):
        self.expect(
            ("call", "#2", "pick", ("#0", "#1")), [do(("call", "pick", (use("a"), use("c"))))],
            parameters=self.PARAMETERS, used=[at("#0"), at("#1")], moved=[(at("#1"), at("#2"))],
            cleared=[at("#0"), at("#1")])

    def test_every_leaf_of_a_source_reaches_every_leaf_of_the_answer(self):
        leaves = [at("#0"), at("#2", 0), at("#2", 1, "?")]
        self.expect(
            ("call", "#3", "both", ("#0", "#1", "#2")), [do(("call", "both", (use("a"), num(1), use("b"))))],
            parameters=self.PARAMETERS, used=leaves, cleared=leaves,
            moved=[(leaf, end) for leaf in leaves for end in (at("#3", 0), at("#3", 1))])

    def test_without_sources(self):
        leaves = [at("#0"), at("#1", 0), at("#1", 1, "?")]
        self.expect(
            ("call", "#2", "hide", ("#0", "#1")), [do(("call", "hide", (use("a"), use("b"))))],
            parameters=self.PARAMETERS, used=leaves, cleared=leaves)

    def test_an_answer_without_leaves(self):
        leaves = [at("#0"), at("#1", 0), at("#1", 1, "?")]
        self.expect(
            ("call", "#2", "burn", ("#0", "#1")), [do(("call", "burn", (use("a"), use("b"))))],
            parameters=self.PARAMETERS, used=leaves, cleared=leaves)


class TestSpawnAndJoin(Case):
    def test_without_leaves(self):
        self.expect(("spawn", "#0", "none", ()), [do(("spawn", "none", ()))])
        self.expect(("spawn", "#1", "one", ("#0",)), [do(("spawn", "one", (num(1),)))])

    def test_every_leaf_reaches_the_task(self):
        leaves = [at("#0"), at("#1", 0), at("#1", 1, "?")]
        for name in ("burn", "work"):
            self.expect(
                ("spawn", "#2", name, ("#0", "#1")), [do(("spawn", name, (use("a"), use("b"))))],
                parameters=(("a", SHARED), ("b", TWO)), used=leaves, cleared=leaves,
                moved=[(leaf, at("#2")) for leaf in leaves])

    def test_join(self):
        self.expect(
            ("join", "#1", "#0"), [do(("join", use("a")))], parameters=(("a", TASK),), used=[at("#0")],
            cleared=[at("#0")])


class TestDrop(Case):
    def test_parameters_and_variables(self):
        for kind, paths in COPIED + MOVED:
            self.expect(
                ("drop", "a"), [], parameters=(("a", kind),), accessed=("store", at("a")),
                cleared=leaves_at(at("a"), paths))
            self.expect(
                ("drop", "x"), [let("x", use("a"))], parameters=(("a", kind),), accessed=("store", at("x")),
                cleared=leaves_at(at("x"), paths))

    def test_temporaries(self):
        for kind, paths in COPIED + MOVED:
            self.expect(
                ("drop", "#0"), [do(use("a"))], parameters=(("a", kind),), accessed=("store", at("#0")),
                cleared=leaves_at(at("#0"), paths))


class TestLeave(Case):
    def test_every_kind(self):
        for kind, paths in COPIED + MOVED:
            self.expect(
                ("leave", "#0"), [("return", use("a"))], parameters=(("a", kind),), result=kind,
                used=leaves_at(at("#0"), paths), cleared=leaves_at(at("#0"), paths))

    def test_at_the_end_of_a_function(self):
        self.expect(("leave", "#0"), [])


class TestTheOthers(Case):
    def test_they_do_nothing(self):
        literals = (num(1), TRUE, NOTHING, ("none", TASK), ("none", items(SHARED, TASK)))
        for literal in literals:
            self.expect(("set", "#0", literal), [do(literal)])
        self.expect(("op", "#2", "+", "#0", "#1"), [do(("op", "+", num(1), num(2)))])
        self.expect(("not", "#1", "#0"), [do(("not", TRUE))])
        self.expect(("unbox", "#1", "#0"), [do(("unbox", use("a")))], parameters=(("a", box(of("Pair"))),))
        self.expect(("print", "#0"), [("print", num(1))])
        self.expect(("test", "#0"), [("if", TRUE, (), ())])
        self.expect(("jump",), [("if", TRUE, (), ())])
        self.expect(("jump",), [("while", TRUE, (let("x", use("a")),))], parameters=(("a", SHARED),))
        self.expect(("stop",), [], parameters=(("a", TASK),), result=INT)


class TestWholeFunction(Case):
    def test_every_point_of_a_thread_that_is_started_and_joined(self):
        program, graph = self.build((
            let("x", ("box", num(1))),
            let("y", seize("x", "^")),
            let("t", ("some", ("spawn", "one", (use("y", "^"),)))),
            ("print", ("join", use("t", "?"))),
        ), parameters=(("a", SHARED),))
        answers = [self.effects(program, graph, point) for point in range(len(graph.points))]
        nothing = ([], None, [], [])
        self.assertEqual(answers, [
            nothing,                                                                            # set #0
            nothing,                                                                            # make #1
            nothing,                                                                            # let x
            ([], ("write", at("x", "^")), [], []),                                              # borrow #2
            ([at("#2")], None, [(at("#2"), at("y"))], [at("#2"), at("y")]),                     # let y
            ([at("y")], ("read", at("y", "^")), [], []),                                        # copy #3
            nothing,                                                                            # spawn #4
            ([at("#4")], None, [(at("#4"), at("#5", "?"))], [at("#4")]),                        # make #5
            ([at("#5", "?")], None, [(at("#5", "?"), at("t", "?"))], [at("#5", "?"), at("t", "?")]),
            ([at("t", "?")], ("move", at("t", "?")), [(at("t", "?"), at("#6"))], [at("t", "?")]),
            ([at("#6")], None, [], [at("#6")]),                                                 # join #7
            nothing,                                                                            # print
            ([], ("store", at("t")), [], [at("t", "?")]),                                       # drop t
            ([], ("store", at("y")), [], [at("y")]),                                            # drop y
            ([], ("store", at("x")), [], []),                                                   # drop x
            nothing,                                                                            # set #8
            ([], ("store", at("a")), [], [at("a")]),                                            # drop a
            nothing,                                                                            # leave
        ])


if __name__ == "__main__":
    unittest.main()
