import unittest

from building import (
    BOX, EXCLUSIVE, INT, TRUE, UNIT, do, items, let, main, num, problem, program_of, reason_of, seize, use,
)

NOTHING = ("unit",)


def when(condition, *block, otherwise=()):
    return ("if", condition, block, otherwise)


def loop(condition, *block):
    return ("while", condition, block)


def store(variable, *steps, value):
    return ("store", (variable, steps), value)


class Case(unittest.TestCase):
    def accept(self, *block, **more):
        self.assertIsNone(reason_of(*block, **more), block)

    def refuse(self, reason, *block, **more):
        self.assertEqual(reason_of(*block, **more), reason, block)


class TestStatements(Case):
    def test_an_empty_block(self):
        self.accept()
        self.accept(result=INT)
        self.assertIsNone(problem(((), (main(),))))
        self.assertIsNone(problem(((), (main(result=BOX),))))

    def test_let_of_every_kind(self):
        for variable in ("n", "b", "u", "x", "p", "m", "s", "e", "t", "i", "mi", "large", "deep"):
            self.accept(let("new", use(variable)), do(use("new")))

    def test_store_needs_the_kind_of_the_place(self):
        self.accept(store("n", value=num(1)))
        self.accept(store("x", "^", value=num(1)))
        self.accept(store("p", "b", value=("box", num(1))))
        self.accept(store("p", "b", "^", value=num(1)))
        self.accept(store("m", "?", value=num(1)))
        self.accept(store("e", "^", value=num(1)))
        self.accept(store("ec", "^", "next", "?", "^", "pair", value=use("p")))
        self.refuse("kind", store("n", value=TRUE))
        self.refuse("kind", store("x", value=num(1)))
        self.refuse("kind", store("x", "^", value=use("xx")))
        self.refuse("kind", store("p", value=use("c")))
        self.refuse("kind", store("m", value=num(1)))

    def test_store_of_what_is_not_plain(self):
        self.accept(store("t", value=("spawn", "one", (num(1),))))
        self.accept(store("s", value=use("s")))
        self.accept(store("me", value=("some", seize("n"))))
        self.accept(store("mi", "?", 1, value=seize("n")))
        self.accept(store("i", 2, value=use("s")))
        self.refuse("kind", store("s", value=use("e")))

    def test_store_across_a_borrow(self):
        self.accept(store("ep", "^", value=use("p")))
        self.accept(store("ep", "^", "b", "^", value=num(1)))
        self.accept(store("me", "?", "^", value=num(1)))
        self.accept(store("mi", "?", 1, "^", value=num(1)))
        self.refuse("borrow", store("s", "^", value=num(1)))
        self.refuse("borrow", store("sp", "^", "b", value=use("x")))
        self.refuse("borrow", store("sp", "^", "b", "^", value=num(1)))
        self.refuse("borrow", store("ms", "?", "^", value=num(1)))
        self.refuse("borrow", store("i", 2, "^", value=num(1)))
        self.refuse("borrow", store("s", "^", value=TRUE))

    def test_store_to_a_parameter(self):
        self.accept(store("k", value=num(1)), parameters=(("k", INT),))
        self.refuse("kind", store("k", value=TRUE), parameters=(("k", INT),))

    def test_do_takes_every_kind(self):
        for variable in ("n", "b", "u", "x", "p", "m", "s", "e", "t", "i", "mi"):
            self.accept(do(use(variable)))
        self.refuse("unknown", do(use("none")))

    def test_print_needs_an_integer(self):
        self.accept(("print", num(1)))
        self.accept(("print", use("x", "^")))
        for variable in ("b", "u", "x", "p", "m", "s", "e", "t", "i"):
            self.refuse("kind", ("print", use(variable)))

    def test_return_needs_the_result(self):
        self.accept(("return", NOTHING))
        self.accept(("return", num(1)), result=INT)
        self.accept(("return", use("i")), result=items(INT, BOX, ("shared", INT)))
        self.refuse("kind", ("return", num(1)))
        self.refuse("kind", ("return", NOTHING), result=INT)
        self.refuse("kind", ("return", use("s")), result=EXCLUSIVE)
        self.refuse("kind", ("return", use("n")), result=BOX)
        self.refuse("kind", ("return", use("m")), result=INT)

    def test_each_return_is_checked_wherever_it_stands(self):
        right, wrong = ("return", num(1)), ("return", TRUE)
        self.refuse("kind", right, wrong, result=INT)
        self.refuse("kind", when(TRUE, right, otherwise=(wrong,)), result=INT)
        self.refuse("kind", loop(TRUE, right, wrong), result=INT)
        self.accept(loop(TRUE, when(TRUE, right, otherwise=(right,)), right), right, result=INT)

    def test_the_statements_behind_a_return_are_checked(self):
        self.refuse("unknown", ("return", NOTHING), do(use("none")))
        self.accept(("return", NOTHING), let("new", num(1)), do(use("new")))

    def test_conditions_are_booleans(self):
        for form in (when, loop):
            self.accept(form(TRUE))
            self.accept(form(use("b"), do(num(1))))
            self.accept(form(("is", ("m", ()))))
            for variable in ("n", "u", "x", "p", "m", "s", "e", "t", "i"):
                self.refuse("kind", form(use(variable)))

    def test_blocks_in_blocks(self):
        block = do(use("n"))
        for _ in range(45):
            block = when(TRUE, loop(TRUE, block), otherwise=(block,) if block[0] == "do" else ())
        self.accept(block)
        block = do(use("none"))
        for _ in range(45):
            block = when(TRUE, otherwise=(loop(TRUE, block),))
        self.refuse("unknown", block)


class TestScopes(Case):
    def test_a_variable_is_known_after_its_let(self):
        self.refuse("unknown", do(use("new")), let("new", num(1)))
        self.refuse("unknown", let("new", use("new")))
        self.accept(let("new", num(1)), let("newer", use("new")), do(use("newer")))

    def test_a_variable_of_a_block_is_not_known_behind_it(self):
        new = let("new", num(1))
        for block in (when(TRUE, new), when(TRUE, otherwise=(new,)), loop(TRUE, new), when(TRUE, loop(TRUE, new))):
            self.accept(block)
            self.refuse("unknown", block, do(use("new")))
            self.refuse("unknown", block, when(TRUE, do(use("new"))))

    def test_a_variable_of_one_branch_is_not_known_in_the_other_one(self):
        self.refuse("unknown", when(TRUE, let("new", num(1)), otherwise=(do(use("new")),)))
        self.refuse("unknown", when(TRUE, do(use("new")), otherwise=(let("new", num(1)),)))

    def test_a_variable_of_the_block_is_not_known_in_the_condition(self):
        for form in (when, loop):
            self.refuse("unknown", form(use("new"), let("new", TRUE)))

    def test_a_variable_is_known_in_the_blocks_inside(self):
        inside = do(use("new"))
        self.accept(let("new", num(1)), when(TRUE, inside, otherwise=(loop(TRUE, inside),)), inside)
        self.accept(when(TRUE, let("new", num(1)), loop(TRUE, inside), inside))

    def test_an_outer_variable_is_known_again_behind_a_block(self):
        self.accept(let("new", num(1)), when(TRUE, let("newer", num(1)), do(use("newer"))), do(use("new")))

    def test_parameters_are_known_everywhere(self):
        parameters = (("k", INT), ("l", BOX))
        self.accept(do(use("k")), loop(TRUE, do(use("l"))), ("return", use("k")), parameters=parameters, result=INT)

    def test_another_function_s_variables_are_not_known(self):
        functions = (("f", (("k", INT),), UNIT, (), (let("l", num(1)),)), main(do(use("k"))))
        self.assertEqual(problem(((), functions)), ("main", "unknown"))
        self.assertEqual(problem(((), functions[:1] + (main(do(use("l"))),))), ("main", "unknown"))

    def test_functions_fields_records_and_temporaries_are_no_variables(self):
        for name in ("one", "work", "a", "pair", "Pair", "#0", "#1", ""):
            self.refuse("unknown", do(use(name)))

    def test_the_place_of_a_store_must_be_in_scope(self):
        self.refuse("unknown", store("new", value=num(1)))
        self.refuse("unknown", store("new", "^", value=num(1)))
        self.refuse("unknown", when(TRUE, let("new", num(1))), store("new", value=num(1)))


class TestDeclared(Case):
    def test_a_name_is_declared_once(self):
        self.refuse("declared", let("n", num(1)))
        self.refuse("declared", let("new", num(1)), let("new", num(2)))
        self.refuse("declared", let("new", num(1)), let("newer", num(1)), let("new", TRUE))

    def test_a_parameter_is_not_declared_again(self):
        self.refuse("declared", let("k", num(1)), parameters=(("k", INT),))
        self.refuse("declared", when(TRUE, let("k", num(1))), parameters=(("j", INT), ("k", INT)))

    def test_in_a_block_inside(self):
        self.refuse("declared", let("new", num(1)), when(TRUE, let("new", num(1))))
        self.refuse("declared", let("new", num(1)), loop(TRUE, loop(TRUE, let("new", num(1)))))

    def test_behind_its_scope(self):
        new = let("new", num(1))
        for block in (when(TRUE, new), when(TRUE, otherwise=(new,)), loop(TRUE, new), when(TRUE, loop(TRUE, new))):
            self.refuse("declared", block, new)
            self.refuse("declared", block, when(TRUE, new))

    def test_in_the_other_branch(self):
        self.refuse("declared", when(TRUE, let("new", num(1)), otherwise=(let("new", num(1)),)))

    def test_behind_a_return(self):
        self.refuse("declared", when(TRUE, let("new", num(1)), ("return", NOTHING)), let("new", num(1)))

    def test_another_function_may_declare_it_too(self):
        functions = (("f", (("k", INT),), UNIT, (), (let("l", num(1)),)), main(let("k", num(1)), let("l", num(1))))
        self.assertIsNone(problem(((), functions)))

    def test_it_may_have_the_name_of_a_function_or_of_a_field(self):
        self.accept(let("one", num(1)), let("a", num(1)), let("main", use("one")), do(("call", "one", (use("a"),))))

    def test_it_is_checked_after_the_expression(self):
        self.refuse("unknown", let("n", use("none")))
        self.refuse("step", let("n", use("n", 0)))
        self.refuse("kind", let("n", ("not", num(1))))
        self.refuse("move", let("n", use("xx", "^")))


class TestWhichComesFirst(Case):
    def test_the_first_statement_decides(self):
        for first, second in (("unknown", "kind"), ("kind", "unknown"), ("step", "move"), ("move", "step"),
                              ("declared", "borrow"), ("borrow", "declared"), ("count", "spawn"), ("spawn", "count")):
            self.refuse(first, WRONG[first], WRONG[second])
            self.refuse(first, when(TRUE, WRONG[first]), WRONG[second])
            self.refuse(first, when(TRUE, otherwise=(WRONG[first],)), WRONG[second])
            self.refuse(first, when(TRUE, WRONG[first], otherwise=(WRONG[second],)))
            self.refuse(first, loop(TRUE, WRONG[first]), WRONG[second])
            self.refuse(first, loop(TRUE, do(num(1)), WRONG[first], WRONG[second]))

    def test_the_condition_comes_before_the_blocks(self):
        for form in (when, loop):
            for reason in ("unknown", "step", "declared", "borrow"):
                self.refuse("kind", form(num(1), WRONG[reason]))
                self.refuse("move", form(use("xx", "^"), WRONG[reason]))
                self.refuse(reason, form(TRUE, WRONG[reason]))
        self.refuse("kind", when(num(1), otherwise=(WRONG["unknown"],)))

    def test_store_checks_the_expression_first(self):
        for place in (("none", ()), ("n", (0,)), ("s", ("^",)), ("b", ())):
            self.refuse("move", ("store", place, use("xx", "^")))
            self.refuse("count", ("store", place, ("call", "one", ())))
            self.refuse("kind", ("store", place, ("not", num(1))))

    def test_store_checks_the_place_before_it_compares(self):
        self.refuse("unknown", store("none", value=TRUE))
        self.refuse("unknown", store("none", 0, "?", value=TRUE))
        self.refuse("step", store("n", 0, value=TRUE))
        self.refuse("step", store("sp", "^", "c", value=TRUE))
        self.refuse("borrow", store("sp", "^", "a", value=TRUE))

    def test_the_first_function_decides(self):
        for first, second in (("unknown", "kind"), ("kind", "unknown"), ("declared", "step")):
            records, functions = program_of((WRONG[second],))
            body = functions[-2][4][:-1] + (WRONG[first],)
            early = ("early", (), UNIT, (), body)
            self.assertEqual(problem((records, (early,) + functions)), ("early", first))
            self.assertEqual(problem((records, functions + (early,))), ("work", second))


WRONG = {
    "declared": let("n", num(1)),
    "unknown": do(use("none")),
    "step": do(use("n", 0)),
    "count": do(("call", "one", ())),
    "spawn": do(("spawn", "late", (num(1),))),
    "kind": ("print", TRUE),
    "move": do(use("xx", "^")),
    "borrow": do(seize("s", "^")),
}


class TestEveryReason(Case):
    def test_each_wrong_statement_has_its_reason(self):
        for reason, statement in WRONG.items():
            self.refuse(reason, statement)

    def test_where_is_the_name_of_the_function(self):
        for reason, statement in WRONG.items():
            records, functions = program_of((statement,))
            self.assertEqual(problem((records, functions)), ("work", reason))
            renamed = tuple(("other",) + row[1:] if row[0] == "work" else row for row in functions)
            self.assertEqual(problem((records, renamed)), ("other", reason))


if __name__ == "__main__":
    unittest.main()
