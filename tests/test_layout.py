import copy
import unittest

from building import BOOL, BOX, EXCLUSIVE, INT, SHARED, TASK, UNIT, box, items, maybe, of, record, wide
from forklent.layout import size

RECORDS = (
    record("Deep", of("Pair"), maybe(of("Pair")), box(of("Deep"))),
    record("Pair", INT, BOX),
    record("One", INT),
)


class TestSize(unittest.TestCase):
    def sizes(self, *kinds):
        return [size(RECORDS, kind) for kind in kinds]

    def test_kinds_of_one_cell(self):
        self.assertEqual(self.sizes(INT, BOOL, UNIT, BOX, TASK, SHARED, EXCLUSIVE), [1] * 7)

    def test_what_is_in_a_box_or_behind_a_borrow_takes_no_cell_there(self):
        inside = items(INT, INT, of("Deep"))
        for word in ("box", "shared", "exclusive", "task"):
            self.assertEqual(size(RECORDS, (word, inside)), 1, word)

    def test_a_maybe_takes_one_cell_more(self):
        self.assertEqual(self.sizes(maybe(INT), maybe(INT, 2), maybe(box(INT)), maybe(items(INT, INT))), [2, 3, 2, 3])

    def test_a_tuple_takes_the_cells_of_its_items(self):
        kinds = (items(INT, INT), items(INT, maybe(INT), BOX), items(items(INT, INT), INT))
        self.assertEqual(self.sizes(*kinds), [2, 4, 3])

    def test_a_record_takes_the_cells_of_its_fields(self):
        self.assertEqual(self.sizes(of("One"), of("Pair"), of("Deep")), [1, 2, 2 + 3 + 1])

    def test_records_inside_other_kinds(self):
        self.assertEqual(self.sizes(maybe(of("Pair")), items(of("Pair"), of("Deep")), box(of("Deep"))), [3, 8, 1])

    def test_the_largest_kinds_and_larger_ones(self):
        for cells in (6, 7, 12, 13, 36, 37, 38, 59, 60, 61):
            self.assertEqual(size((), wide(cells)), cells)

    def test_a_long_chain_of_records_in_either_order(self):
        chain = [record("R0", INT)]
        for at in range(1, 70):
            chain.append(record(f"R{at}", maybe(of(f"R{at - 1}")), INT))
        self.assertEqual(size(tuple(chain), of("R69")), 1 + 2 * 69)
        self.assertEqual(size(tuple(reversed(chain)), of("R69")), 1 + 2 * 69)

    def test_the_arguments_are_not_modified(self):
        kind = items(of("Deep"), maybe(INT))
        before = copy.deepcopy((RECORDS, kind))
        size(RECORDS, kind)
        self.assertEqual((RECORDS, kind), before)


if __name__ == "__main__":
    unittest.main()
