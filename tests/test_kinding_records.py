import unittest

from building import (
    BOX, EXCLUSIVE, INT, SHARED, TASK, box, items, main, maybe, of, problem, record, wide,
)
from forklent.errors import KindProblem
from forklent.kinding import check_kinds
from forklent.layout import size

PAIR = record("Pair", INT, BOX)


class Case(unittest.TestCase):
    def refuse(self, where, *records):
        self.assertEqual(problem((records, (main(),))), (where, "record"), records)

    def accept(self, *records):
        self.assertIsNone(problem((records, (main(),))), records)


class TestRecordFirstRound(Case):
    def test_no_records(self):
        self.accept()

    def test_from_one_to_six_fields(self):
        for many in range(1, 7):
            self.accept(record("R", *[INT] * many))
        self.refuse("R", record("R"))
        self.refuse("R", record("R", *[INT] * 7))
        self.refuse("R", record("R", *[INT] * 12))

    def test_the_names_of_the_fields_differ(self):
        self.refuse("R", ("R", (("a", INT), ("a", INT))))
        self.refuse("R", ("R", (("a", INT), ("b", INT), ("a", BOX))))
        self.accept(("R", (("a", INT), ("b", INT))), ("S", (("a", INT), ("b", INT))))

    def test_a_name_is_used_once(self):
        self.refuse("Pair", PAIR, PAIR)
        self.refuse("Pair", PAIR, record("S", INT), record("Pair", INT))
        self.refuse("S", PAIR, record("S", INT), record("S", BOX), PAIR)

    def test_only_declared_records_occur(self):
        self.refuse("R", record("R", of("S")))
        for kind in (box(of("S")), maybe(of("S")), items(INT, of("S")), box(items(of("S"), INT))):
            self.refuse("R", record("R", INT, kind))

    def test_a_record_may_stand_before_the_one_that_it_names(self):
        self.accept(record("R", of("Pair"), box(of("Pair"))), PAIR)
        self.accept(PAIR, record("R", of("Pair"), box(of("Pair"))))

    def test_fields_are_plain(self):
        for leaf in (SHARED, EXCLUSIVE, TASK, ("shared", of("Pair"))):
            for kind in (leaf, maybe(leaf), items(INT, leaf), box(leaf), ("maybe", items(leaf, INT)), ("task", leaf)):
                self.refuse("R", PAIR, record("R", INT, kind))

    def test_tuples_have_from_two_to_six_items(self):
        for many in range(2, 7):
            self.accept(record("R", items(*[INT] * many)))
        for many in (0, 1, 7, 8, 20):
            wrong = items(*[INT] * many)
            for kind in (wrong, box(wrong), maybe(wrong), items(INT, wrong), items(wrong, INT), box(wrong, 5)):
                self.refuse("R", record("R", INT, kind))

    def test_from_one_to_six_levels(self):
        for wrap in (maybe, box):
            for times in range(6):
                self.accept(record("R", wrap(INT, times)))
            for times in (6, 7, 39, 45):
                self.refuse("R", record("R", wrap(INT, times)))

    def test_a_record_has_one_level(self):
        self.accept(PAIR, record("R", box(of("Pair"), 5)))
        self.refuse("R", PAIR, record("R", box(of("Pair"), 6)))
        self.accept(record("S", box(INT, 5)), record("R", box(of("S"), 5)))

    def test_the_deepest_item_of_a_tuple_counts(self):
        self.accept(record("R", items(INT, box(INT, 4))))
        self.refuse("R", record("R", items(INT, box(INT, 5))))
        self.refuse("R", record("R", items(box(INT, 5), INT)))
        self.accept(record("R", items(INT, items(INT, items(INT, items(INT, items(INT, INT)))))))
        self.refuse("R", record("R", items(INT, items(INT, items(INT, items(INT, items(INT, maybe(INT))))))))

    def test_a_kind_of_very_many_items_is_not_gone_through(self):
        kind = INT
        for _ in range(45):
            kind = items(kind, kind)
        with self.assertRaises(KindProblem):
            check_kinds(((record("R", kind),), (main(),)))

    def test_the_last_field_counts_too(self):
        self.refuse("R", record("R", INT, INT, INT, INT, INT, SHARED))
        self.refuse("R", record("R", INT, INT, INT, INT, INT, of("S")))

    def test_the_first_record_with_a_problem(self):
        self.refuse("R", record("R"), record("S", TASK))
        self.refuse("S", record("S", TASK), record("R"))
        self.refuse("S", PAIR, record("S", TASK), PAIR)

    def test_a_field_may_have_the_name_of_a_function(self):
        self.accept(("R", (("main", INT),)))


class TestRecordSizes(Case):
    def test_a_size_of_sixty_and_of_sixty_one(self):
        self.accept(record("R", wide(60)))
        self.refuse("R", record("R", wide(61)))
        self.accept(record("R", wide(30), wide(30)))
        self.refuse("R", record("R", wide(30), wide(31)))
        self.accept(record("R", wide(54), INT, BOX, INT, INT, maybe(INT)))
        self.refuse("R", record("R", wide(54), INT, BOX, maybe(INT), INT, maybe(INT)))

    def test_a_maybe_has_one_cell_more(self):
        self.accept(record("R", maybe(wide(59))))
        self.refuse("R", record("R", maybe(wide(60))))
        self.accept(record("R", maybe(wide(58), 2)))
        self.refuse("R", record("R", maybe(wide(59), 2)))

    def test_every_kind_that_is_written_counts_inside_a_box_too(self):
        self.accept(record("R", INT, box(wide(60))))
        self.refuse("R", record("R", INT, box(wide(61))))
        self.refuse("R", record("R", box(wide(61), 2)))
        self.accept(record("R", box(maybe(wide(59)))))
        self.refuse("R", record("R", box(maybe(wide(60)))))
        self.accept(record("R", items(INT, box(wide(60)))))
        self.refuse("R", record("R", items(INT, box(wide(61)))))

    def test_what_is_in_a_box_does_not_count_where_the_box_stands(self):
        self.accept(record("R", *[box(wide(60))] * 6))

    def test_records_count_where_they_stand(self):
        half = record("Half", wide(30))
        self.accept(half, record("R", of("Half"), of("Half")))
        self.accept(half, record("R", items(of("Half"), of("Half"))))
        self.refuse("R", half, record("R", of("Half"), of("Half"), INT))
        self.refuse("R", half, record("R", maybe(items(of("Half"), of("Half")))))
        self.refuse("R", half, record("R", box(items(INT, of("Half"), of("Half")))))
        self.accept(half, record("R", of("Half"), wide(29), box(items(of("Half"), of("Half")))))
        self.refuse("R", half, record("R", of("Half"), wide(30), box(items(of("Half"), of("Half")))))

    def test_a_record_that_is_too_large_counts_inside_a_box_too(self):
        large = record("Large", wide(60), INT)
        self.refuse("R", record("R", box(of("Large"))), large)
        self.refuse("Large", large, record("R", box(of("Large"))))

    def test_a_box_in_the_other_record_is_a_matter_of_that_record(self):
        large = record("Large", wide(60), INT)
        between = record("Between", box(of("Large")))
        self.refuse("Between", record("R", box(of("Between")), of("Between")), between, large)

    def test_all_first_rounds_come_before_the_sizes(self):
        self.refuse("S", record("R", wide(61)), record("S"))
        self.refuse("S", record("R", of("R")), record("S", of("Nowhere")))
        self.refuse("R", record("R", of("R")), record("R", INT))
        self.refuse("R", record("R", wide(61)), record("S", wide(61)))
        self.refuse("S", record("S", wide(61)), record("R", of("R")))

    def test_sixty_records_of_six_records_each(self):
        many = tuple(record(f"R{at}", *[of(f"R{at + 1}")] * 6) for at in range(60)) + (record("R60", INT),)
        self.refuse("R0", *many)
        self.refuse("R57", *reversed(many))
        self.assertEqual(size(many, of("R0")), 6 ** 60)

    def test_a_chain_of_seventy_records_of_one_cell(self):
        many = tuple(record(f"R{at}", of(f"R{at + 1}")) for at in range(70)) + (record("R70", INT),)
        self.accept(*many)
        self.accept(*reversed(many))

    def test_a_chain_of_records_in_six_levels(self):
        many = tuple(record(f"R{at}", box(maybe(of(f"R{at + 1}"), 4))) for at in range(70)) + (record("R70", INT),)
        self.accept(*many)
        large = tuple(record(f"R{at}", maybe(of(f"R{at + 1}"), 5)) for at in range(70)) + (record("R70", INT),)
        self.refuse("R0", *large)
        self.refuse("R58", *reversed(large))


class TestRecordsThatContainThemselves(Case):
    def test_directly(self):
        self.refuse("R", record("R", of("R")))
        self.refuse("R", record("R", INT, of("R")))

    def test_in_a_payload_or_an_item(self):
        self.refuse("R", record("R", maybe(of("R"))))
        self.refuse("R", record("R", items(INT, of("R"))))
        self.refuse("R", record("R", INT, maybe(items(INT, maybe(of("R"))))))

    def test_through_another_record(self):
        self.refuse("R", record("R", of("S")), record("S", of("R")))
        self.refuse("S", record("S", maybe(of("R"))), record("R", items(INT, of("S"))))
        self.refuse("R", record("R", of("S")), record("S", of("T")), record("T", INT, maybe(of("R"))))

    def test_through_a_box(self):
        self.accept(record("R", box(of("R"))))
        self.accept(record("R", INT, maybe(box(of("R")))))
        self.accept(record("R", box(maybe(of("R")))))
        self.accept(record("R", of("S")), record("S", box(of("R"))))
        self.accept(record("R", box(of("S")), of("S")), record("S", INT, box(items(of("R"), of("S")))))

    def test_with_a_box_and_without_one(self):
        self.refuse("R", record("R", box(of("R")), maybe(of("R"))))

    def test_what_contains_such_a_record_counts_as_too_large(self):
        loop = record("Loop", of("Loop"))
        self.refuse("R", record("R", of("Loop")), loop)
        self.refuse("R", record("R", maybe(of("Loop"))), loop)
        self.refuse("R", record("R", box(of("Loop"))), loop)
        self.refuse("R", record("R", box(items(INT, of("Loop")))), loop)
        self.refuse("Loop", loop, record("R", of("Loop")))

    def test_what_contains_it_through_another_record(self):
        loop = record("Loop", of("Loop"))
        self.refuse("R", record("R", box(of("S"))), record("S", of("Loop")), loop)
        self.refuse("S", record("R", box(of("S"))), record("S", box(of("Loop"))), loop)
        self.refuse("R", record("R", of("S")), record("S", maybe(of("T"))), record("T", of("S")))

    def test_a_record_before_the_loop_that_has_nothing_to_do_with_it(self):
        self.refuse("Loop", PAIR, record("R", of("Pair")), record("Loop", INT, of("Loop")))


if __name__ == "__main__":
    unittest.main()
