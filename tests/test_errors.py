import unittest

from addednames import errors
from support import ATTRIBUTES, NAMES_ERRORS, OTHER_ERRORS, STRANGE, Touchy


class ErrorsTest(unittest.TestCase):
    def test_there_are_27_classes(self):
        self.assertEqual(len(NAMES_ERRORS), 21)
        found = [name for name, value in vars(errors).items() if isinstance(value, type)]
        self.assertEqual(sorted(found), sorted([*ATTRIBUTES, "NamesError", "NothingToUndo"]))

    def test_names_error_stands_below_value_error(self):
        self.assertEqual(errors.NamesError.__bases__, (ValueError,))

    def test_21_stand_directly_below_names_error(self):
        for name in NAMES_ERRORS:
            self.assertEqual(getattr(errors, name).__bases__, (errors.NamesError,), name)

    def test_the_others_stand_below_errors_of_python(self):
        for name, (base, _) in OTHER_ERRORS.items():
            self.assertEqual(getattr(errors, name).__bases__, (base,), name)
        self.assertEqual(errors.NothingToUndo.__bases__, (RuntimeError,))

    def test_by_position_and_by_name_with_any_value(self):
        for name, attribute in ATTRIBUTES.items():
            error = getattr(errors, name)
            for value in [*STRANGE, Touchy()]:
                self.assertIs(getattr(error(value), attribute), value)
                self.assertIs(getattr(error(**{attribute: value}), attribute), value)

    def test_made_from_one_argument(self):
        for name, attribute in ATTRIBUTES.items():
            error = getattr(errors, name)
            for args, named in [((), {}), ((1, 2), {}), ((1,), {attribute: 1}), ((), {"other": 1})]:
                with self.assertRaises(TypeError):
                    error(*args, **named)

    def test_nothing_to_undo_is_made_from_none(self):
        self.assertIsInstance(errors.NothingToUndo(), RuntimeError)
        with self.assertRaises(TypeError):
            errors.NothingToUndo(1)


if __name__ == "__main__":
    unittest.main()
