import copy
import unittest
from itertools import product

from forklent.errors import ForkError, NoSuchStep, NoSuchVariable
from forklent.kinds import leaves
from forklent.places import crossed, is_prefix, kind_at, overlap

INT = ("int",)
BOX = ("box", INT)
TASK = ("task", INT)
PAIR = ("record", "Pair")
CHAIN = ("record", "Chain")
RECORDS = (
    ("Pair", (("left", INT), ("right", BOX))),
    ("Chain", (("pair", PAIR), ("next", ("maybe", ("box", CHAIN))))),
)
NEXT = ("next", "?", "^")
KINDS = {
    "n": INT,
    "b": ("box", PAIR),
    "p": PAIR,
    "c": CHAIN,
    "s": ("shared", CHAIN),
    "e": ("exclusive", ("box", INT)),
    "t": TASK,
    "m": ("maybe", ("tuple", (TASK, ("exclusive", PAIR)))),
    "deep": ("tuple", (INT, ("maybe", ("tuple", (("maybe", ("shared", INT)), BOX))))),
    "six": ("tuple", (INT, BOX, PAIR, TASK, ("maybe", INT), ("shared", BOX))),
    "#0": ("shared", PAIR),
}


def at(variable, *steps):
    return (variable, steps)


def kind_of(place):
    return kind_at(place, records=RECORDS, kinds=KINDS)


def crossing(place):
    return crossed(place, records=RECORDS, kinds=KINDS)


class TestPrefixAndOverlap(unittest.TestCase):
    def both(self, first, second):
        return (is_prefix(first, second), is_prefix(second, first), overlap(first, second), overlap(second, first))

    def test_a_place_and_itself(self):
        for place in (at("x"), at("x", 0), at("c", *NEXT * 4)):
            self.assertEqual(self.both(place, place), (True, True, True, True))

    def test_equal_places_that_are_different_objects(self):
        self.assertEqual(self.both(("x", tuple([0, "?"])), ("x", tuple([0, "?"]))), (True, True, True, True))

    def test_a_prefix_overlaps_in_both_directions(self):
        self.assertEqual(self.both(at("x"), at("x", 0)), (True, False, True, True))
        self.assertEqual(self.both(at("x", 0), at("x", 0, "?", "^")), (True, False, True, True))
        self.assertEqual(self.both(at("c"), at("c", *NEXT * 4)), (True, False, True, True))
        self.assertEqual(self.both(at("c", *NEXT * 4), at("c", *NEXT * 4, "next")), (True, False, True, True))

    def test_places_that_part(self):
        self.assertEqual(self.both(at("x", 0), at("x", 1)), (False, False, False, False))
        self.assertEqual(self.both(at("x", 0, 1), at("x", 1)), (False, False, False, False))
        self.assertEqual(self.both(at("x", 0, "left"), at("x", 0, "right")), (False, False, False, False))
        self.assertEqual(self.both(at("x", 1), at("x", 0, 1)), (False, False, False, False))

    def test_different_variables_with_the_same_steps(self):
        for steps in ((), (0,), ("^", "left")):
            self.assertEqual(self.both(("x", steps), ("y", steps)), (False, False, False, False))
        self.assertEqual(self.both(("x", ()), ("xy", (0,))), (False, False, False, False))

    def test_the_answers_are_true_and_false(self):
        for function in (is_prefix, overlap):
            self.assertIs(function(at("x"), at("x", 0)), True)
            self.assertIs(function(at("x", 0), at("x", 1)), False)

    def test_an_integer_is_not_a_name(self):
        self.assertEqual(self.both(at("x", 0), at("x", "0")), (False, False, False, False))

    def test_against_the_definition(self):
        rows = [steps for many in range(4) for steps in product((0, "?", "^"), repeat=many)]
        for first, second in product(rows, repeat=2):
            begins = any(first == second[:many] for many in range(len(second) + 1))
            ends = any(second == first[:many] for many in range(len(first) + 1))
            self.assertEqual(
                self.both(("x", first), ("x", second)), (begins, ends, begins or ends, begins or ends))


class TestKindAt(unittest.TestCase):
    def refuse(self, place, error):
        for function in (kind_at, crossed):
            with self.assertRaises(ForkError) as caught:
                function(place, records=RECORDS, kinds=KINDS)
            self.assertIs(type(caught.exception), error, place)

    def test_a_place_without_steps(self):
        for variable in KINDS:
            self.assertEqual(kind_of(at(variable)), KINDS[variable])

    def test_one_step(self):
        self.assertEqual(kind_of(at("six", 5)), ("shared", BOX))
        self.assertEqual(kind_of(at("p", "right")), BOX)
        self.assertEqual(kind_of(at("m", "?")), KINDS["m"][1])
        self.assertEqual(kind_of(at("b", "^")), PAIR)
        self.assertEqual(kind_of(at("#0", "^")), PAIR)

    def test_steps_are_read_from_the_left(self):
        self.assertEqual(kind_of(at("six", 5, "^", "^")), INT)
        self.assertEqual(kind_of(at("b", "^", "right", "^")), INT)
        self.assertEqual(kind_of(at("m", "?", 1, "^", "left")), INT)
        self.assertEqual(kind_of(at("s", "^", *NEXT, "pair", "right")), BOX)

    def test_twelve_steps_and_more(self):
        self.assertEqual(kind_of(at("c", *NEXT * 4)), CHAIN)
        self.assertEqual(kind_of(at("c", *NEXT * 3, "next", "?", "^")), CHAIN)
        self.assertEqual(kind_of(at("c", *NEXT * 4, "next")), ("maybe", ("box", CHAIN)))
        self.assertEqual(kind_of(at("c", *NEXT * 10)), CHAIN)

    def test_the_leaves_of_a_place_are_borrows_and_tasks(self):
        words = [kind_of(("m", path))[0] for path in leaves(KINDS["m"])]
        self.assertEqual(words, ["task", "exclusive"])

    def test_unknown_variables(self):
        self.refuse(at("x"), NoSuchVariable)
        self.refuse(at("x", 0), NoSuchVariable)
        self.refuse(at("", "^"), NoSuchVariable)
        self.refuse(at("#1"), NoSuchVariable)

    def test_a_field_or_a_record_is_not_a_variable(self):
        self.refuse(at("left"), NoSuchVariable)
        self.refuse(at("Pair", "left"), NoSuchVariable)

    def test_the_unknown_variable_comes_before_a_step_that_fits_nothing(self):
        self.refuse(at("x", -1), NoSuchVariable)
        self.refuse(at("x", "nowhere"), NoSuchVariable)
        self.refuse(("x", (0,) * 20), NoSuchVariable)

    def test_steps_that_do_not_fit(self):
        for place in (
            at("n", 0), at("n", "^"), at("n", "?"), at("n", "left"), at("p", "middle"), at("p", "next"), at("p", 0),
            at("p", "^"), at("b", "left"), at("b", "?"), at("s", "pair"), at("t", "^"), at("t", "?"), at("t", 0),
            at("six", 6), at("six", -1), at("six", True), at("m", 0), at("c", "next", "^"),
        ):
            self.refuse(place, NoSuchStep)

    def test_a_later_step_that_does_not_fit(self):
        self.refuse(at("six", 0, 0), NoSuchStep)
        self.refuse(at("b", "^", "right", "^", "^"), NoSuchStep)
        self.refuse(at("m", "?", 0, "^"), NoSuchStep)
        self.refuse(at("c", *NEXT * 4, "^"), NoSuchStep)

    def test_a_step_that_does_not_fit_before_and_behind_the_borrow(self):
        self.refuse(at("six", 9, "^"), NoSuchStep)
        self.refuse(at("s", "^", "left"), NoSuchStep)
        self.refuse(at("e", "^", "^", "^"), NoSuchStep)
        self.refuse(at("deep", 1, "?", 0, "?", "^", 0), NoSuchStep)

    def test_no_variables_and_no_records(self):
        for function in (kind_at, crossed):
            with self.assertRaises(NoSuchVariable):
                function(at("n"), records=(), kinds={})
            with self.assertRaises(NoSuchStep):
                function(at("p", "left"), records=(), kinds={"p": PAIR})
        self.assertEqual(kind_at(at("p"), records=(), kinds={"p": PAIR}), PAIR)

    def test_records_and_kinds_go_by_keyword_only(self):
        for function in (kind_at, crossed):
            with self.assertRaises(TypeError):
                function(at("n"), RECORDS, KINDS)


class TestCrossed(unittest.TestCase):
    def test_places_without_steps_cross_nothing(self):
        for variable in KINDS:
            self.assertIsNone(crossing(at(variable)))

    def test_boxes_items_fields_and_payloads_are_not_borrows(self):
        for place in (at("b", "^"), at("b", "^", "right", "^"), at("c", *NEXT * 4), at("six", 1, "^"),
                      at("p", "right", "^"), at("six", 4, "?"), at("deep", 1, "?", 1, "^")):
            self.assertIsNone(crossing(place))

    def test_a_place_that_only_leads_to_a_borrow(self):
        for place in (at("six", 5), at("m", "?", 1), at("deep", 1, "?", 0), at("deep", 1, "?", 0, "?")):
            self.assertIsNone(crossing(place))

    def test_at_the_only_step(self):
        self.assertEqual(crossing(at("s", "^")), at("s"))
        self.assertEqual(crossing(at("e", "^")), at("e"))
        self.assertEqual(crossing(at("#0", "^")), at("#0"))

    def test_at_the_first_step(self):
        self.assertEqual(crossing(at("s", "^", "pair", "left")), at("s"))
        self.assertEqual(crossing(at("#0", "^", "right")), at("#0"))

    def test_at_the_last_step(self):
        self.assertEqual(crossing(at("six", 5, "^")), at("six", 5))
        self.assertEqual(crossing(at("m", "?", 1, "^")), at("m", "?", 1))
        self.assertEqual(crossing(at("deep", 1, "?", 0, "?", "^")), at("deep", 1, "?", 0, "?"))

    def test_in_the_middle(self):
        self.assertEqual(crossing(at("m", "?", 1, "^", "right", "^")), at("m", "?", 1))

    def test_the_box_behind_the_borrow_is_not_what_is_crossed(self):
        self.assertEqual(crossing(at("e", "^", "^")), at("e"))
        self.assertEqual(crossing(at("six", 5, "^", "^")), at("six", 5))
        self.assertEqual(crossing(at("#0", "^", "right", "^")), at("#0"))

    def test_twelve_steps_and_more(self):
        self.assertEqual(crossing(at("s", "^", *NEXT * 3, "next", "?")), at("s"))
        self.assertEqual(crossing(at("s", "^", *NEXT * 5)), at("s"))


class TestArguments(unittest.TestCase):
    def test_no_argument_is_modified(self):
        places = (at("n"), at("deep", 1, "?", 0, "?", "^"), at("s", "^", *NEXT), at("x", 0), at("p", 7))
        before = copy.deepcopy((places, RECORDS, KINDS))
        names = list(KINDS)
        for place in places:
            is_prefix(place, places[1])
            overlap(places[1], place)
            for function in (kind_at, crossed):
                try:
                    function(place, records=RECORDS, kinds=KINDS)
                except (NoSuchVariable, NoSuchStep):
                    pass
        self.assertEqual((places, RECORDS, KINDS), before)
        self.assertEqual(list(KINDS), names)


if __name__ == "__main__":
    unittest.main()
