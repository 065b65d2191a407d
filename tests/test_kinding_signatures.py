import unittest

from building import (
    BOOL, BOX, EXCLUSIVE, INT, SHARED, TASK, UNIT, box, do, items, let, main, maybe, num, of, problem, record, use,
    wide,
)

RECORDS = (record("Pair", INT, BOX), record("Half", wide(30)))
UNKNOWN = do(use("nowhere"))


def function(name, *kinds, result=UNIT, sources=(), block=()):
    """A function whose parameters are called a, b, .. and have these kinds."""
    return (name, tuple(zip("abcdefghijklmnop", kinds)), result, sources, block)


def checked(*functions):
    return problem((RECORDS, functions))


class TestSignatures(unittest.TestCase):
    def refuse(self, *functions, where="f"):
        self.assertEqual(checked(*functions, main()), (where, "signature"), functions)
        if where != "main":
            self.assertEqual(checked(main(), *functions), (where, "signature"), functions)

    def accept(self, *functions):
        self.assertIsNone(checked(*functions, main()), functions)

    def refuse_kind(self, kind):
        self.refuse(function("f", kind))
        self.refuse(function("f", INT, BOOL, kind, INT))
        self.refuse(function("f", result=kind))

    def accept_kind(self, kind):
        self.accept(function("f", kind))
        self.accept(function("f", result=kind))

    def test_a_name_is_used_once(self):
        self.refuse(function("f"), function("f"))
        self.refuse(function("f"), function("g", INT), function("f", INT))
        self.accept(function("f"), function("g"))
        self.refuse(main(), where="main")

    def test_at_most_six_parameters(self):
        for many in range(7):
            self.accept(function("f", *[INT] * many))
        self.refuse(function("f", *[INT] * 7))
        self.refuse(function("f", *[INT] * 12))

    def test_the_names_of_the_parameters_differ(self):
        self.refuse(("f", (("a", INT), ("a", INT)), UNIT, (), ()))
        self.refuse(("f", (("a", SHARED), ("b", INT), ("a", BOX)), UNIT, (), ()))
        self.accept(function("f", INT), function("g", INT))

    def test_the_kinds_of_the_document(self):
        for kind in (INT, BOOL, UNIT, BOX, TASK, SHARED, EXCLUSIVE, of("Pair"), items(INT, TASK), maybe(SHARED),
                     box(of("Pair")), ("task", of("Pair")), items(maybe(TASK), EXCLUSIVE, maybe(items(BOX, SHARED)))):
            self.accept_kind(kind)

    def test_only_declared_records(self):
        for kind in (of("Nowhere"), box(of("Nowhere")), ("shared", of("Nowhere")), maybe(of("Nowhere")),
                     items(INT, of("Nowhere")), ("task", of("Nowhere"))):
            self.refuse_kind(kind)

    def test_borrows_and_tasks_stand_in_tuples_and_payloads_only(self):
        for leaf in (SHARED, EXCLUSIVE, TASK):
            for word in ("box", "shared", "exclusive", "task"):
                self.refuse_kind((word, leaf))
                self.refuse_kind((word, maybe(leaf)))
                self.refuse_kind((word, items(INT, leaf)))
                self.refuse_kind(maybe(items(INT, (word, leaf))))

    def test_tuples_have_from_two_to_six_items(self):
        for many in range(2, 7):
            self.accept_kind(items(*[SHARED] * many))
        for many in (0, 1, 7, 20):
            for kind in (INT, SHARED):
                self.refuse_kind(items(*[kind] * many))
                self.refuse_kind(maybe(items(*[kind] * many)))
            for word in ("box", "shared", "exclusive", "task"):
                self.refuse_kind((word, items(*[INT] * many)))

    def test_from_one_to_six_levels(self):
        for word in ("box", "shared", "exclusive", "task", "maybe"):
            for times in range(5):
                self.accept_kind((word, maybe(INT, times)))
            for times in (5, 6, 40):
                self.refuse_kind((word, maybe(INT, times)))
                self.refuse_kind((word, box(INT, times)))
        self.accept_kind(maybe(SHARED, 4))
        self.refuse_kind(maybe(SHARED, 5))
        self.accept_kind(items(INT, maybe(TASK, 3)))
        self.refuse_kind(items(INT, maybe(TASK, 4)))

    def test_a_size_of_sixty_and_of_sixty_one(self):
        self.accept_kind(wide(60))
        self.refuse_kind(wide(61))
        self.accept_kind(maybe(wide(59)))
        self.refuse_kind(maybe(wide(60)))
        self.accept_kind(items(of("Half"), of("Half")))
        self.refuse_kind(items(of("Half"), of("Half"), INT))

    def test_the_size_behind_a_borrow_in_a_box_and_in_a_task(self):
        for word in ("box", "shared", "exclusive", "task"):
            self.accept_kind((word, wide(60)))
            self.refuse_kind((word, wide(61)))
            self.accept_kind((word, maybe(wide(59))))
            self.refuse_kind((word, maybe(wide(60))))
            self.refuse_kind(maybe((word, items(of("Half"), of("Half"), INT))))
        self.accept_kind(items(*[("shared", wide(60))] * 6))
        self.refuse_kind(box(wide(61), 2))

    def test_sources_are_parameters_that_have_leaves(self):
        for kind in (SHARED, EXCLUSIVE, TASK, maybe(SHARED), items(INT, TASK), ("task", of("Pair"))):
            self.accept(function("f", kind, sources=("a",)))
        for kind in (INT, BOX, of("Pair"), maybe(INT), items(INT, BOX)):
            self.refuse(function("f", kind, sources=("a",)))
            self.refuse(function("f", SHARED, kind, sources=("a", "b")))
            self.refuse(function("f", kind, SHARED, sources=("b", "a")))

    def test_sources_are_parameters_of_this_function(self):
        self.refuse(function("f", sources=("a",)))
        self.refuse(function("f", SHARED, sources=("b",)))
        self.refuse(function("f", SHARED, sources=("f",)))
        self.refuse(function("g", SHARED, SHARED, sources=("b",)), function("f", SHARED, sources=("b",)))

    def test_sources_differ_and_may_stand_in_any_order(self):
        self.accept(function("f", SHARED, TASK, sources=("a", "b")))
        self.accept(function("f", SHARED, TASK, sources=("b", "a")))
        self.accept(function("f", SHARED, TASK, sources=("b",)))
        self.refuse(function("f", SHARED, TASK, sources=("a", "a")))
        self.refuse(function("f", SHARED, TASK, sources=("a", "b", "a")))

    def test_sources_need_no_result_with_leaves(self):
        self.accept(function("f", SHARED, result=UNIT, sources=("a",)))
        self.accept(function("f", SHARED, result=SHARED))

    def test_records_come_before_signatures(self):
        program = ((record("R"),), (function("f"), function("f"), main()))
        self.assertEqual(problem(program), ("R", "record"))
        program = ((record("R", of("R")),), (function("f", *[INT] * 7), main()))
        self.assertEqual(problem(program), ("R", "record"))

    def test_the_first_function_with_a_problem(self):
        seven = [INT] * 7
        self.refuse(function("f", *seven), function("g", *seven))
        self.refuse(function("g"), function("f", result=wide(61)), function("g", *seven))
        self.refuse(function("h"), function("f", *seven), function("h"))

    def test_all_signatures_come_before_main_and_the_blocks(self):
        wrong = function("f", *[INT] * 7)
        self.assertEqual(checked(wrong), ("f", "signature"))
        self.assertEqual(checked(main(result=TASK), wrong), ("f", "signature"))
        self.assertEqual(checked(main(UNKNOWN), wrong), ("f", "signature"))
        self.assertEqual(checked(function("g", block=(UNKNOWN,)), main(), wrong), ("f", "signature"))

    def test_main_has_a_signature_like_others(self):
        self.assertEqual(checked(main(parameters=(("a", INT), ("a", INT)))), ("main", "signature"))
        self.assertEqual(checked(main(result=items(INT))), ("main", "signature"))
        self.assertEqual(checked(("main", (("a", INT),), UNIT, ("a",), ())), ("main", "signature"))


class TestMain(unittest.TestCase):
    def refuse(self, *functions):
        self.assertEqual(checked(*functions), ("main", "main"), functions)

    def test_there_is_a_function_main(self):
        self.refuse()
        self.refuse(function("f"))
        self.refuse(function("mains"), function("f"))
        self.assertIsNone(checked(function("f"), main(), function("g")))

    def test_parameters_are_integers_and_booleans(self):
        for kinds in ((), (INT,), (BOOL,), (INT, BOOL, INT, INT, BOOL, BOOL)):
            self.assertIsNone(checked(function("main", *kinds)))
        for kind in (UNIT, BOX, SHARED, EXCLUSIVE, TASK, of("Pair"), maybe(INT), items(INT, BOOL)):
            self.refuse(function("main", kind))
            self.refuse(function("main", INT, kind))
            self.refuse(function("main", kind, BOOL))

    def test_the_result_is_plain(self):
        for kind in (INT, BOOL, UNIT, BOX, of("Pair"), maybe(BOX), items(INT, of("Pair")), wide(60)):
            self.assertIsNone(checked(function("main", result=kind)))
        for kind in (SHARED, EXCLUSIVE, TASK, maybe(SHARED), items(INT, EXCLUSIVE), maybe(items(INT, TASK))):
            self.refuse(function("main", result=kind))

    def test_main_comes_before_all_blocks(self):
        self.refuse(function("f", block=(UNKNOWN,)))
        self.refuse(function("f", block=(UNKNOWN,)), function("main", UNIT, block=(UNKNOWN,)))
        self.refuse(main(UNKNOWN, result=TASK))

    def test_blocks_come_in_the_order_of_the_functions(self):
        wrong = (let("a", num(1)),)
        self.assertEqual(checked(main(UNKNOWN), function("f", INT, block=wrong)), ("main", "unknown"))
        self.assertEqual(checked(function("f", INT, block=wrong), main(UNKNOWN)), ("f", "declared"))
        self.assertEqual(checked(function("f"), function("g", INT, block=wrong), main(UNKNOWN)), ("g", "declared"))

    def test_main_may_be_called_and_spawned(self):
        self.assertIsNone(checked(main(do(("call", "main", ())), do(("spawn", "main", ())))))


if __name__ == "__main__":
    unittest.main()
