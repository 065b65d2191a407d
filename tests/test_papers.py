import copy
import unittest

from building import (
    BOX, EXCLUSIVE, INT, SHARED, TASK, TRUE, UNIT, at, call, do, give, items, join, let, main, maybe, num, seize, show,
    spawn, store, use,
)
from forklent.checker import check_program
from forklent.errors import ForkError, Refused
from forklent.graph import build_graph
from forklent.kinding import check_kinds
from forklent.marks import first_marks, new_marks, pass_mark
from forklent.papers import judge, paper
from generating import ANY_PROBLEM, random_program

ONE = ("one", (("e", EXCLUSIVE),), INT, (), (give(use("e", "^")),))
# Its points: 0 borrow #0 of n, 1 spawn #1, 2 let t, 3 move #2 of t, 4 join #3, 5 print, 6 copy #4, 7 print,
# 8 drop t, 9 set #5, 10 drop p, 11 drop n, 12 leave.
UNDER = ("under", (("n", INT), ("p", items(INT, maybe(SHARED)))), UNIT, (), (
    let("t", spawn("one", seize("n"))), show(join(use("t"))), show(use("n"))))
PROGRAM = ((), (ONE, main(), UNDER))
AT_P = ("loan", at("p", 1, "?"), "p", "alive")
AT_T = ("loan", at("t"), 0, "alive")
MOVED_T = ("moved", at("t"))
ENTRIES = (
    (AT_P,),
    (("loan", at("#0"), 0, "alive"), AT_P),
    (("loan", at("#1"), 0, "alive"), AT_P),
    (AT_P, AT_T),
    (("loan", at("#2"), 0, "alive"), AT_P, MOVED_T),
    (AT_P, MOVED_T), (AT_P, MOVED_T), (AT_P, MOVED_T), (AT_P, MOVED_T),
    (AT_P,), (AT_P,), (), (),
)


def least_paper(program):
    """The least right paper, from the words of the document: marks are added as long as one is missing."""
    entries = []
    for function in program[1]:
        graph = build_graph(program, function[0])
        found = {0: set(first_marks(program, graph))}
        waiting = [0]
        while waiting:
            point = waiting.pop()
            after = {other for mark in found[point] for other in pass_mark(program, graph, point, mark)}
            after.update(new_marks(program, graph, point))
            for successor in graph.successors[point]:
                if successor not in found or not after <= found[successor]:
                    found.setdefault(successor, set()).update(after)
                    waiting.append(successor)
        entries.append(tuple(
            tuple(sorted(found[point], key=repr)) if point in found else None for point in range(len(graph.points))))
    return tuple(entries)


class Case(unittest.TestCase):
    def judged(self, wanted, paper_read, program=PROGRAM):
        before = copy.deepcopy((program, paper_read))
        answer = judge(program, paper_read)
        self.assertEqual((program, paper_read), before)
        self.assertIs(answer, wanted, paper_read)


class TestPaper(Case):
    def test_a_whole_paper(self):
        self.assertIsNone(check_kinds(PROGRAM))
        before = copy.deepcopy(PROGRAM)
        found = paper(PROGRAM)
        self.assertEqual(PROGRAM, before)
        self.assertEqual(found[2], ENTRIES)
        self.assertEqual(found[1], ((), ()))
        at_e = ("loan", at("e"), "e", "alive")
        # The last point of `one` is a stop behind its return.
        self.assertEqual(found[0], ((at_e,), (at_e,), (), None))

    def test_marks_are_sorted_by_their_text(self):
        pair = items(SHARED, SHARED)
        names = ("b", "a", "c")
        program = ((), (("under", tuple((name, pair) for name in names), UNIT, (), (do(use("b")),)), main()))
        entry = paper(program)[0][1]
        self.assertEqual(entry, tuple(sorted(entry, key=repr)))
        self.assertEqual(len(entry), 8)
        self.assertLess(entry[0][1], entry[-1][1])

    def test_a_name_is_sorted_by_its_text_not_by_its_number(self):
        # The loan 10 comes before the loan 4 by their texts.
        block = [let(f"v{at}", seize(f"n{at}")) for at in range(7)] + [let("s", num(1))]
        parameters = tuple((f"n{at}", INT) for at in range(6))
        program = ((), (("under", parameters, UNIT, (), (let("n6", num(1)), *block)), main()))
        self.assertIsNone(check_kinds(program))
        for entry in paper(program)[0]:
            self.assertEqual(list(entry), sorted(entry, key=repr))

    def test_a_mark_with_several_states(self):
        block = (
            let("m", ("none", EXCLUSIVE)),
            ("while", TRUE, (store(at("n"), num(1)), store(at("m"), ("some", seize("n"))))))
        program = ((), (("under", (("n", INT),), UNIT, (), block), main()))
        self.assertIsNone(check_kinds(program))
        states = {mark[3] for entry in paper(program)[0] for mark in entry if mark[1] == at("m", "?")}
        self.assertEqual(states, {"alive", "dead"})
        self.judged(True, paper(program), program)

    def test_random_programs(self):
        for seed in range(200, 250):
            program = random_program(seed)
            found = paper(program)
            self.assertEqual(found, least_paper(program), seed)
            self.judged(True, found, program)

    def test_programs_that_are_not_accepted(self):
        bad = ("bad", (("x", BOX),), UNIT, (), (do(use("x")), do(use("x"))))
        for functions in ((bad, main()), (main(), ONE, bad)):
            program = ((), functions)
            self.assertIsNone(check_kinds(program))
            before = copy.deepcopy(program)
            with self.assertRaises(ForkError) as caught:
                paper(program)
            self.assertIs(type(caught.exception), Refused)
            self.assertEqual(program, before)


class TestJudge(Case):
    """Each condition broken by itself."""

    RIGHT = paper(PROGRAM)

    def with_entry(self, point, entry):
        entries = self.RIGHT[2]
        return (*self.RIGHT[:2], entries[:point] + (entry,) + entries[point + 1:])

    def test_the_right_paper(self):
        self.judged(True, self.RIGHT)

    def test_the_order_of_marks_and_marks_that_stand_twice(self):
        self.judged(True, self.with_entry(4, tuple(reversed(ENTRIES[4]))))
        self.judged(True, self.with_entry(4, ENTRIES[4] * 2))
        self.judged(True, self.with_entry(0, ENTRIES[0] * 3))

    def test_too_few_and_too_many_functions(self):
        self.judged(False, ())
        self.judged(False, self.RIGHT[:2])
        self.judged(False, (*self.RIGHT, ((), ())))
        self.judged(False, (*self.RIGHT, ()))
        self.judged(False, self.RIGHT[1:] + self.RIGHT[:1])

    def test_too_few_and_too_many_points(self):
        entries = self.RIGHT[2]
        for wrong in (entries[:-1], entries + ((),), entries + (None,), ()):
            self.judged(False, (*self.RIGHT[:2], wrong))

    def test_the_first_entry(self):
        self.judged(False, self.with_entry(0, None))
        self.judged(False, self.with_entry(0, ()))
        self.judged(False, self.with_entry(0, (("loan", at("p", 1, "?"), "p", "dead"),)))

    def test_the_first_entry_of_a_function_that_begins_without_marks(self):
        self.judged(False, (self.RIGHT[0], (None, ()), self.RIGHT[2]))
        self.judged(False, (self.RIGHT[0], (None, None), self.RIGHT[2]))

    def test_an_entry_that_is_none_behind_one_that_is_not(self):
        for point in range(1, len(ENTRIES)):
            self.judged(False, self.with_entry(point, None))

    def test_each_mark_that_must_stand_in_an_entry(self):
        for point, entry in enumerate(ENTRIES):
            for at_mark in range(len(entry)):
                self.judged(False, self.with_entry(point, entry[:at_mark] + entry[at_mark + 1:]))

    def test_the_marks_that_an_instruction_gives(self):
        self.judged(False, self.with_entry(1, (AT_P,)))
        self.judged(False, self.with_entry(4, (("loan", at("#2"), 0, "alive"), AT_P)))

    def test_states_are_told_apart(self):
        changed = ("loan", at("t"), 0, "loose")
        self.judged(False, self.with_entry(3, (AT_P, changed)))
        # Beside the right mark it may stand, if it also stands where it goes.
        self.judged(False, self.with_entry(3, (AT_P, AT_T, changed)))
        entries = list(ENTRIES)
        entries[3] += (changed,)
        entries[4] += (("loan", at("#2"), 0, "loose"),)
        self.judged(True, (*self.RIGHT[:2], tuple(entries)))

    def test_a_mark_that_shows_a_problem(self):
        for point, mark in (
                (3, ("moved", at("t"))), (4, ("loan", at("#2"), 0, "dead")), (6, ("moved", at("n"))),
                (6, ("loan", at("t"), 0, "alive")), (1, ("loan", at("#0"), 0, "dead"))):
            entries = self.spread(point, mark)
            self.judged(False, (*self.RIGHT[:2], entries))

    def spread(self, point, mark):
        """The right entries with a mark more at a point, and whatever it becomes behind that."""
        graph = build_graph(PROGRAM, "under")
        entries = [tuple(entry) for entry in ENTRIES]
        waiting = [(point, mark)]
        while waiting:
            point, mark = waiting.pop()
            if mark not in entries[point]:
                entries[point] += (mark,)
                for successor in graph.successors[point]:
                    waiting += [(successor, other) for other in pass_mark(PROGRAM, graph, point, mark)]
        return tuple(entries)

    def test_more_marks_than_the_least_paper_has(self):
        for point, mark in (
                (0, ("moved", at("p"))), (0, ("moved", at("p", 1, "?"))), (0, ("loan", at("p", 1, "?"), 0, "dead")),
                (5, ("loan", at("t"), "p", "alive")), (7, ("loan", at("t"), 0, "alive")), (10, ("moved", at("n"))),
                (12, ("moved", at("#3"))), (12, ("loan", at("#1"), "p", "loose")), (0, ("moved", at("t")))):
            self.judged(True, (*self.RIGHT[:2], self.spread(point, mark)))

    def test_leaves_that_are_none(self):
        for leaf in (
                at("n"), at("p"), at("p", 1), at("p", 0), at("q"), at("#3"), at("#9"), at("t", "^"), at("t", 0),
                    at("one"),
                at("p", 1, "?", "^"), at("p", 2), at("p", -1), at("p", "a"), at("", "?"), at("p", *["?"] * 20),
                    at("T")):
            self.judged(False, self.with_entry(12, (("loan", leaf, 0, "alive"),)))
        self.judged(True, self.with_entry(12, (("loan", at("p", 1, "?"), 0, "alive"),)))

    def test_loans_that_are_none(self):
        for name in (1, 2, -1, 13, 100, "n", "t", "e", "q", "#0", "", "0"):
            self.judged(False, self.with_entry(12, (("loan", at("t"), name, "alive"),)))
        self.judged(True, self.with_entry(12, (("loan", at("t"), "p", "alive"),)))

    def test_places_that_are_none(self):
        for place in (
                at("q"), at("n", 0), at("n", "^"), at("p", 2), at("p", -1), at("p", 1, "^"), at("p", "a"), at("#9"),
                at("t", "^"), at("t", "?"), at("one"), at("")):
            self.judged(False, self.with_entry(12, (("moved", place),)))
        for place in (at("n"), at("p"), at("p", 1, "?", "^"), at("#3"), at("t"), at("#0", "^")):
            self.judged(True, self.with_entry(12, (("moved", place),)))

    def test_true_and_false_are_no_integers(self):
        self.judged(False, self.with_entry(12, (("loan", at("t"), False, "alive"),)))
        self.judged(False, self.with_entry(12, (("loan", at("p", True, "?"), 0, "alive"),)))
        self.judged(False, self.with_entry(12, (("moved", at("p", True)),)))

    def test_places_of_twelve_and_thirteen_steps(self):
        row = ("Row", (("n", INT), ("more", maybe(("box", ("record", "Row"))))))
        program = ((row,), (("under", (("x", ("record", "Row")),), UNIT, (), ()), main()))
        self.assertIsNone(check_kinds(program))
        twelve = ("more", "?", "^") * 4
        for steps, wanted in ((twelve, True), (twelve + ("n",), False), (twelve * 2, False),
            (twelve[:-1] + ("?",), False)):
            self.judged(wanted, (((), (), (("moved", at("x", *steps)),)), ((), ())), program)

    def test_a_point_that_no_path_reaches(self):
        block = (give(num(1)), let("y", use("x")), do(use("x")))
        program = ((), (("under", (("x", BOX),), INT, (), block), main()))
        self.assertIsNone(check_kinds(program))
        right = paper(program)
        entries = right[0]
        self.assertEqual(entries[3:], (None,) * 6)
        moved = ("moved", at("x"))
        # The second use is a problem if x was moved before it.
        self.judged(False, (entries[:3] + ((), (moved,), (moved,), (), (), ()), right[1]), program)
        # The last points are the drop of y and the stop.
        self.judged(True, (entries[:7] + ((), ()), right[1]), program)
        self.judged(True, (entries[:7] + ((moved,), (moved,)), right[1]), program)
        self.judged(True, (entries[:7] + ((("moved", at("y")),), ()), right[1]), program)
        self.judged(True, (entries[:8] + ((moved,),), right[1]), program)
        self.judged(False, (entries[:7] + ((), None), right[1]), program)
        self.judged(False, (entries[:7] + ((moved,), ()), right[1]), program)
        self.judged(False, (entries[:8] + ((("moved", at("z")),),), right[1]), program)

    def test_no_paper_is_right_for_a_program_that_is_refused(self):
        under = (*UNDER[:4], (let("t", spawn("one", seize("n"))), show(use("n")), show(join(use("t")))))
        program = ((), (ONE, main(), under))
        self.assertIsNone(check_kinds(program))
        self.assertEqual(check_program(program)[1], "busy")
        self.judged(False, least_paper(program), program)

    def test_random_programs_that_are_refused(self):
        refused = 0
        for seed in range(300, 340):
            program = random_program(seed, ANY_PROBLEM)
            if check_program(program) is not None:
                refused += 1
                self.judged(False, least_paper(program), program)
        self.assertGreater(refused, 20)


class TestSources(Case):
    def test_an_escape(self):
        def program(sources):
            return ((), (("under", (("p", SHARED),), SHARED, sources, (give(use("p")),)), main()))
        right = paper(program(("p",)))
        self.judged(True, right, program(("p",)))
        self.judged(False, right, program(()))

    def test_a_function_that_is_called(self):
        def program(sources):
            send = ("send", (("e", EXCLUSIVE), ("f", EXCLUSIVE)), TASK, sources, ())
            under = ("under", (("n", INT), ("k", INT)), UNIT, (), (
                let("t", call("send", seize("n"), seize("k"))), show(join(use("t"))), show(use("n"))))
            return ((), (ONE, send, under, main()))
        self.judged(True, paper(program(("e",))), program(("e",)))
        self.judged(False, paper(program(("e",))), program(("f",)))
        self.judged(False, paper(program(())), program(("e",)))
        # More marks than there must be do no harm here.
        self.judged(True, paper(program(("e", "f"))), program(("e",)))


if __name__ == "__main__":
    unittest.main()
