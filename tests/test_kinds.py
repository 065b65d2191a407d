import copy
import unittest

from forklent.errors import ForkError, NoSuchStep
from forklent.kinds import is_copy, is_plain, kind_after, leaves, levels

INT = ("int",)
BOOL = ("bool",)
UNIT = ("unit",)
PAIR = ("record", "Pair")
BOX = ("box", INT)
MAYBE = ("maybe", INT)
SHARED = ("shared", INT)
EXCLUSIVE = ("exclusive", BOX)
TASK = ("task", INT)
SIX = ("tuple", (INT, BOOL, UNIT, BOX, SHARED, TASK))
RECORDS = (
    ("Pair", (("left", INT), ("right", BOX))),
    ("Deep", (("pair", PAIR), ("next", ("maybe", ("box", ("record", "Deep")))), ("flag", BOOL))),
)


def pair(first, second=INT):
    return ("tuple", (first, second))


def wrapped(kind, times, word="maybe"):
    for _ in range(times):
        kind = (word, kind)
    return kind


class TestIsPlain(unittest.TestCase):
    def test_kinds_without_borrows_and_tasks_are_plain(self):
        for kind in (INT, BOOL, UNIT, BOX, MAYBE, PAIR, pair(INT), pair(BOX, PAIR), ("box", pair(PAIR))):
            self.assertIs(is_plain(kind), True, kind)

    def test_borrows_and_tasks_are_not_plain(self):
        for kind in (SHARED, EXCLUSIVE, TASK):
            self.assertIs(is_plain(kind), False, kind)

    def test_what_contains_a_borrow_or_a_task_is_not_plain(self):
        for leaf in (SHARED, EXCLUSIVE, TASK):
            for kind in (("maybe", leaf), pair(leaf), pair(INT, leaf), ("maybe", pair(BOX, ("maybe", leaf)))):
                self.assertIs(is_plain(kind), False, kind)

    def test_a_borrow_inside_a_box_is_contained_too(self):
        self.assertIs(is_plain(("box", SHARED)), False)
        self.assertIs(is_plain(("box", pair(INT, ("maybe", TASK)))), False)

    def test_the_last_of_six_items_counts(self):
        self.assertIs(is_plain(("tuple", (INT,) * 6)), True)
        self.assertIs(is_plain(("tuple", (INT,) * 5 + (TASK,))), False)

    def test_a_record_is_plain_whether_declared_or_not(self):
        self.assertIs(is_plain(("record", "Nowhere")), True)

    def test_kinds_of_six_levels_and_more(self):
        for times in (5, 6, 40, 60):
            self.assertIs(is_plain(wrapped(INT, times)), True)
            self.assertIs(is_plain(wrapped(TASK, times - 1)), False)


class TestIsCopy(unittest.TestCase):
    def test_copy_kinds(self):
        for kind in (INT, BOOL, UNIT, SHARED, ("shared", BOX), ("shared", PAIR)):
            self.assertIs(is_copy(kind), True, kind)

    def test_kinds_that_are_moved(self):
        for kind in (BOX, PAIR, ("exclusive", INT), EXCLUSIVE, TASK):
            self.assertIs(is_copy(kind), False, kind)

    def test_a_maybe_is_copied_as_its_payload_is(self):
        self.assertIs(is_copy(MAYBE), True)
        self.assertIs(is_copy(("maybe", ("shared", BOX))), True)
        for kind in (BOX, PAIR, ("exclusive", INT), TASK):
            self.assertIs(is_copy(("maybe", kind)), False, kind)

    def test_a_tuple_is_copied_if_all_items_are(self):
        self.assertIs(is_copy(pair(INT, SHARED)), True)
        self.assertIs(is_copy(("tuple", (INT, BOOL, UNIT, SHARED, MAYBE, pair(INT)))), True)
        for kind in (BOX, PAIR, ("exclusive", INT), TASK):
            self.assertIs(is_copy(pair(kind)), False, kind)
            self.assertIs(is_copy(pair(INT, kind)), False, kind)
            self.assertIs(is_copy(("tuple", (INT,) * 5 + (kind,))), False, kind)

    def test_kinds_of_six_levels_and_more(self):
        for times in (5, 6, 40, 60):
            self.assertIs(is_copy(wrapped(INT, times)), True)
            self.assertIs(is_copy(wrapped(BOX, times - 1)), False)


class TestLevels(unittest.TestCase):
    def test_one_level(self):
        for kind in (INT, BOOL, UNIT, PAIR, ("record", "Nowhere")):
            self.assertEqual(levels(kind), 1, kind)

    def test_every_other_kind_has_one_more_than_what_is_in_it(self):
        for word in ("box", "maybe", "shared", "exclusive", "task"):
            self.assertEqual(levels((word, INT)), 2, word)
            self.assertEqual(levels((word, PAIR)), 2, word)
            self.assertEqual(levels((word, pair(BOX))), 4, word)

    def test_a_tuple_counts_its_deepest_item(self):
        self.assertEqual(levels(pair(INT)), 2)
        self.assertEqual(levels(pair(INT, BOX)), 3)
        self.assertEqual(levels(pair(BOX, INT)), 3)
        self.assertEqual(levels(pair(MAYBE, pair(BOX))), 4)
        self.assertEqual(levels(SIX), 3)
        self.assertEqual(levels(("tuple", (INT,) * 5 + (wrapped(INT, 3),))), 5)

    def test_six_levels_and_more(self):
        self.assertEqual(levels(pair(INT, ("maybe", pair(("maybe", SHARED))))), 6)
        for times in (5, 6, 39, 60):
            self.assertEqual(levels(wrapped(INT, times, "box")), times + 1)

    def test_tuples_beyond_the_limits(self):
        self.assertEqual(levels(("tuple", (INT,) * 7)), 2)
        self.assertEqual(levels(("tuple", (BOX,))), 3)
        self.assertEqual(levels(("tuple", ())), 1)


class TestLeaves(unittest.TestCase):
    def test_a_borrow_and_a_task_have_one_leaf(self):
        for kind in (SHARED, EXCLUSIVE, TASK, ("shared", PAIR)):
            self.assertEqual(leaves(kind), ((),), kind)

    def test_plain_kinds_have_none(self):
        for kind in (INT, BOOL, UNIT, BOX, PAIR, MAYBE, pair(INT, BOX), ("box", pair(INT))):
            self.assertEqual(leaves(kind), (), kind)

    def test_a_payload(self):
        self.assertEqual(leaves(("maybe", TASK)), (("?",),))
        self.assertEqual(leaves(("maybe", ("maybe", SHARED))), (("?", "?"),))

    def test_items_in_their_order(self):
        self.assertEqual(leaves(pair(SHARED, TASK)), ((0,), (1,)))
        self.assertEqual(leaves(pair(INT, TASK)), ((1,),))
        self.assertEqual(leaves(SIX), ((4,), (5,)))
        self.assertEqual(leaves(("tuple", (TASK,) * 6)), ((0,), (1,), (2,), (3,), (4,), (5,)))

    def test_nested_leaves_in_their_order(self):
        kind = ("tuple", (("maybe", pair(INT, TASK)), INT, pair(SHARED, ("maybe", EXCLUSIVE)), TASK))
        self.assertEqual(leaves(kind), ((0, "?", 1), (2, 0), (2, 1, "?"), (3,)))

    def test_six_levels_and_more(self):
        kind = pair(INT, ("maybe", pair(("maybe", SHARED))))
        self.assertEqual(levels(kind), 6)
        self.assertEqual(leaves(kind), ((1, "?", 0, "?"),))
        self.assertEqual(leaves(wrapped(TASK, 40)), (("?",) * 40,))

    def test_the_order_of_many_items_is_that_of_the_numbers(self):
        self.assertEqual(leaves(("tuple", (TASK,) * 12)), tuple((at,) for at in range(12)))


class TestKindAfter(unittest.TestCase):
    def refuse(self, kind, step):
        with self.assertRaises(ForkError) as caught:
            kind_after(RECORDS, kind, step)
        self.assertIs(type(caught.exception), NoSuchStep, (kind, step))

    def test_items(self):
        self.assertEqual(kind_after(RECORDS, pair(INT, BOX), 0), INT)
        self.assertEqual(kind_after(RECORDS, pair(INT, BOX), 1), BOX)
        self.assertEqual([kind_after(RECORDS, SIX, at) for at in range(6)], list(SIX[1]))

    def test_no_item_behind_the_last_and_none_below_zero(self):
        for kind, many in ((pair(INT), 2), (SIX, 6)):
            self.refuse(kind, many)
            self.refuse(kind, many + 1)
            self.refuse(kind, -1)
            self.refuse(kind, -many)
        self.refuse(("tuple", ()), 0)

    def test_tuples_beyond_the_limits(self):
        self.assertEqual(kind_after(RECORDS, ("tuple", (INT,) * 6 + (BOX,)), 6), BOX)
        self.assertEqual(kind_after(RECORDS, ("tuple", (BOX,)), 0), BOX)

    def test_true_and_false_are_not_integers(self):
        self.refuse(pair(INT), False)
        self.refuse(pair(INT), True)

    def test_fields(self):
        self.assertEqual(kind_after(RECORDS, PAIR, "left"), INT)
        self.assertEqual(kind_after(RECORDS, PAIR, "right"), BOX)
        self.assertEqual(kind_after(RECORDS, ("record", "Deep"), "pair"), PAIR)
        self.assertEqual(kind_after(RECORDS, ("record", "Deep"), "flag"), BOOL)

    def test_a_field_that_only_another_record_has(self):
        self.refuse(PAIR, "flag")
        self.refuse(PAIR, "pair")
        self.refuse(("record", "Deep"), "left")

    def test_fields_that_no_record_has(self):
        self.refuse(PAIR, "middle")
        self.refuse(PAIR, "")
        self.refuse(("record", "Nowhere"), "left")

    def test_records_take_no_other_steps(self):
        for step in (0, 1, -1, "?", "^"):
            self.refuse(PAIR, step)

    def test_a_field_needs_the_record_itself(self):
        for kind in (("box", PAIR), ("maybe", PAIR), ("shared", PAIR), ("exclusive", PAIR), ("task", PAIR), pair(PAIR)):
            self.refuse(kind, "left")

    def test_a_record_inside_a_box_or_behind_a_borrow(self):
        for word in ("box", "shared", "exclusive"):
            self.assertEqual(kind_after(RECORDS, (word, PAIR), "^"), PAIR)

    def test_the_payload(self):
        self.assertEqual(kind_after(RECORDS, ("maybe", BOX), "?"), BOX)
        for kind in (INT, BOOL, UNIT, BOX, PAIR, SHARED, EXCLUSIVE, TASK, SIX, pair(MAYBE)):
            self.refuse(kind, "?")

    def test_what_a_box_or_a_borrow_leads_to(self):
        self.assertEqual(kind_after(RECORDS, BOX, "^"), INT)
        self.assertEqual(kind_after(RECORDS, SHARED, "^"), INT)
        self.assertEqual(kind_after(RECORDS, EXCLUSIVE, "^"), BOX)
        for kind in (INT, BOOL, UNIT, MAYBE, PAIR, TASK, SIX, ("maybe", BOX)):
            self.refuse(kind, "^")

    def test_no_step_fits_simple_kinds_and_tasks(self):
        tasks = (TASK, ("task", PAIR), ("task", MAYBE), ("task", pair(INT)), ("task", BOX))
        for kind in (INT, BOOL, UNIT) + tasks:
            for step in (0, 1, -1, "?", "^", "left", "right"):
                self.refuse(kind, step)

    def test_integers_fit_tuples_only(self):
        for kind in (BOX, MAYBE, SHARED, EXCLUSIVE, PAIR):
            self.refuse(kind, 0)
            self.refuse(kind, 1)

    def test_an_index_as_a_text_does_not_fit(self):
        self.refuse(pair(INT), "0")

    def test_without_records(self):
        self.assertEqual(kind_after((), BOX, "^"), INT)
        with self.assertRaises(NoSuchStep):
            kind_after((), PAIR, "left")


class TestArguments(unittest.TestCase):
    def test_no_argument_is_modified(self):
        for kind in (INT, PAIR, SIX, pair(MAYBE, pair(TASK)), wrapped(SHARED, 4)):
            before = copy.deepcopy((RECORDS, kind))
            for function in (is_plain, is_copy, levels, leaves):
                function(kind)
            for step in (0, "left", "?", "^", -1):
                try:
                    kind_after(RECORDS, kind, step)
                except NoSuchStep:
                    pass
            self.assertEqual((RECORDS, kind), before)


if __name__ == "__main__":
    unittest.main()
