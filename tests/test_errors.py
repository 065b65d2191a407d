import pickle
import unittest

from forklent.errors import (
    ForkError, KindProblem, NoSuchFunction, NoSuchStep, NoSuchVariable, NotAllocated, Refused,
)

ERRORS = (
    KindProblem("main", "kind"), NoSuchFunction("f"), NotAllocated(7), NoSuchStep(), NoSuchVariable(), Refused(),
)


class TestErrors(unittest.TestCase):
    def test_the_base_class_is_a_value_error(self):
        self.assertEqual(ForkError.__bases__, (ValueError,))

    def test_every_error_derives_from_the_base_class_only(self):
        for error in ERRORS:
            self.assertEqual(type(error).__bases__, (ForkError,))

    def test_no_error_is_an_instance_of_another_class(self):
        classes = [type(error) for error in ERRORS]
        for error in ERRORS:
            self.assertEqual([kind for kind in classes if isinstance(error, kind)], [type(error)])

    def test_the_base_class_is_none_of_the_others(self):
        for error in ERRORS:
            self.assertNotIsInstance(ForkError(), type(error))

    def test_kind_problem_has_where_and_reason(self):
        problem = KindProblem("Pair", "record")
        self.assertEqual((problem.where, problem.reason), ("Pair", "record"))

    def test_no_such_function_has_the_name(self):
        self.assertEqual(NoSuchFunction("go").name, "go")

    def test_not_allocated_has_the_address(self):
        self.assertEqual(NotAllocated(0).address, 0)
        self.assertEqual(NotAllocated(12).address, 12)

    def test_attributes_are_set_on_each_object(self):
        for error in ERRORS[:3]:
            self.assertNotEqual(vars(error), {})
        for error in ERRORS[3:]:
            self.assertEqual(vars(error), {})

    def test_attributes_are_taken_by_keyword_too(self):
        problem = KindProblem(reason="step", where="main")
        self.assertEqual((problem.where, problem.reason), ("main", "step"))
        self.assertEqual(NoSuchFunction(name="go").name, "go")
        self.assertEqual(NotAllocated(address=3).address, 3)

    def test_errors_can_be_raised_caught_and_copied(self):
        for error in ERRORS:
            with self.assertRaises(ValueError) as caught:
                raise error
            copy = pickle.loads(pickle.dumps(caught.exception))
            self.assertIs(type(copy), type(error))
            self.assertEqual(vars(copy), vars(error))


if __name__ == "__main__":
    unittest.main()
