import copy
import unittest

from building import (
    BOOL, BOX, EXCLUSIVE, INT, SHARED, TASK, TRUE, UNIT, box, call, do, give, items, let, main, maybe, num, of, record,
    show, store, use, wide,
)
from forklent.errors import ForkError, NoSuchStep
from forklent.graph import build_graph
from forklent.kinding import check_kinds
from forklent.layout import frame, offset, size

RECORDS = (
    record("Deep", of("Pair"), maybe(of("Pair")), box(of("Deep"))),
    record("Pair", INT, BOX),
    record("One", INT),
)


class TestSize(unittest.TestCase):
    def sizes(self, *kinds):
        return [size(RECORDS, kind) for kind in kinds]

    def test_kinds_of_one_cell(self):
        self.assertEqual(self.sizes(INT, BOOL, UNIT, BOX, TASK, SHARED, EXCLUSIVE), [1] * 7)

    def test_what_is_in_a_box_or_behind_a_borrow_takes_no_cell_there(self):
        inside = items(INT, INT, of("Deep"))
        for word in ("box", "shared", "exclusive", "task"):
            self.assertEqual(size(RECORDS, (word, inside)), 1, word)

    def test_a_maybe_takes_one_cell_more(self):
        self.assertEqual(self.sizes(maybe(INT), maybe(INT, 2), maybe(box(INT)), maybe(items(INT, INT))), [2, 3, 2, 3])

    def test_a_tuple_takes_the_cells_of_its_items(self):
        kinds = (items(INT, INT), items(INT, maybe(INT), BOX), items(items(INT, INT), INT))
        self.assertEqual(self.sizes(*kinds), [2, 4, 3])

    def test_a_record_takes_the_cells_of_its_fields(self):
        self.assertEqual(self.sizes(of("One"), of("Pair"), of("Deep")), [1, 2, 2 + 3 + 1])

    def test_records_inside_other_kinds(self):
        self.assertEqual(self.sizes(maybe(of("Pair")), items(of("Pair"), of("Deep")), box(of("Deep"))), [3, 8, 1])

    def test_the_largest_kinds_and_larger_ones(self):
        for cells in (6, 7, 12, 13, 36, 37, 38, 59, 60, 61):
            self.assertEqual(size((), wide(cells)), cells)

    def test_a_long_chain_of_records_in_either_order(self):
        chain = [record("R0", INT)]
        for at in range(1, 70):
            chain.append(record(f"R{at}", maybe(of(f"R{at - 1}")), INT))
        self.assertEqual(size(tuple(chain), of("R69")), 1 + 2 * 69)
        self.assertEqual(size(tuple(reversed(chain)), of("R69")), 1 + 2 * 69)

    def test_the_arguments_are_not_modified(self):
        kind = items(of("Deep"), maybe(INT))
        before = copy.deepcopy((RECORDS, kind))
        size(RECORDS, kind)
        self.assertEqual((RECORDS, kind), before)


class TestOffset(unittest.TestCase):
    KIND = items(maybe(INT), INT, of("Pair"), BOX)

    def test_items(self):
        self.assertEqual([offset(RECORDS, self.KIND, step) for step in range(4)], [0, 2, 3, 5])
        self.assertEqual([offset((), items(SHARED, TASK, INT), step) for step in range(3)], [0, 1, 2])

    def test_fields(self):
        self.assertEqual([offset(RECORDS, of("Deep"), field) for field in "abc"], [0, 2, 5])
        self.assertEqual([offset(RECORDS, of("Pair"), field) for field in "ab"], [0, 1])

    def test_payloads(self):
        for kind in (INT, self.KIND, of("Deep"), TASK):
            self.assertEqual(offset(RECORDS, maybe(kind), "?"), 1)

    def test_what_lies_elsewhere_has_no_offset(self):
        for kind in (BOX, SHARED, EXCLUSIVE, box(of("Deep")), TASK, INT, maybe(INT), of("Pair"), self.KIND):
            self.refuse(kind, "^")

    def test_steps_that_do_not_fit(self):
        for step in (4, -1, 100, "a", "?", "", True, False):
            self.refuse(self.KIND, step)
        for step in ("c", "d", 0, "?", ""):
            self.refuse(of("Pair"), step)
        for step in (0, 1, "a"):
            self.refuse(maybe(INT), step)
        for kind in (INT, BOOL, UNIT, BOX, SHARED, TASK):
            for step in (0, "a", "?"):
                self.refuse(kind, step)

    def refuse(self, kind, step):
        with self.assertRaises(ForkError) as caught:
            offset(RECORDS, kind, step)
        self.assertIs(type(caught.exception), NoSuchStep)

    def test_the_arguments_are_not_modified(self):
        before = copy.deepcopy((RECORDS, self.KIND))
        offset(RECORDS, self.KIND, 2)
        self.assertEqual((RECORDS, self.KIND), before)


class TestFrame(unittest.TestCase):
    def frame_of(self, *block, parameters=(), result=UNIT):
        program = (RECORDS, (("under", parameters, result, (), block), main()))
        self.assertIsNone(check_kinds(program))
        graph = build_graph(program, "under")
        before = copy.deepcopy((program, vars(graph)))
        found = frame(program, graph)
        self.assertEqual((program, vars(graph)), before)
        self.assertEqual(set(found), {"", *graph.kinds})
        return found

    def test_parameters_come_first(self):
        self.assertEqual(
            self.frame_of(parameters=(("b", maybe(INT)), ("a", of("Deep")), ("c", SHARED))),
            {"b": 0, "a": 2, "c": 8, "#0": 9, "": 10})

    def test_then_all_others_as_they_appear(self):
        found = self.frame_of(
            let("z", ("tuple", (num(1), ("some", num(2))))), let("y", use("z")), do(call("under", use("a"))),
            store(("y", (0,)), use("a")), parameters=(("a", INT),))
        self.assertEqual(found, {
            "a": 0, "#0": 1, "#1": 2, "#2": 3, "#3": 5, "z": 8, "#4": 11, "y": 14, "#5": 17, "#6": 18, "#7": 19,
            "#8": 20, "": 21})

    def test_in_blocks_and_behind_a_return(self):
        found = self.frame_of(
            ("while", TRUE, (let("x", ("none", INT)), ("if", TRUE, (give(num(1)),), (let("w", num(2)),)))),
            give(num(3)), let("v", num(4)), result=INT)
        self.assertEqual(found, {
            "#0": 0, "#1": 1, "x": 3, "#2": 5, "#3": 6, "#4": 7, "w": 8, "#5": 9, "#6": 10, "v": 11, "": 12})

    def test_a_frame_has_one_cell_at_least(self):
        self.assertEqual(self.frame_of(result=INT), {"": 1})

    def test_a_frame_that_is_full(self):
        found = self.frame_of(show(num(1)), parameters=tuple((f"p{at}", wide(60)) for at in range(6)))
        self.assertEqual(found, {**{f"p{at}": at * 60 for at in range(6)}, "#0": 360, "#1": 361, "": 362})


if __name__ == "__main__":
    unittest.main()
