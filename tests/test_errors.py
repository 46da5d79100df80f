import unittest

from pagecounts import errors

NAMES = [
    "InvalidBook",
    "InvalidSize",
    "InvalidTable",
    "InvalidChain",
    "InvalidNumber",
    "NothingToUndo",
    "Unreadable",
]
CLASSES = [getattr(errors, name) for name in NAMES]


class Bases(unittest.TestCase):
    def test_book_error_is_directly_below_value_error(self):
        self.assertEqual(errors.BookError.__bases__, (ValueError,))

    def test_others_are_directly_below_book_error(self):
        for error in CLASSES:
            self.assertEqual(error.__bases__, (errors.BookError,), error)

    def test_no_other_class_is_a_base(self):
        for error in CLASSES:
            for other in CLASSES:
                self.assertEqual(issubclass(error, other), error is other, (error, other))

    def test_there_are_no_more_classes(self):
        found = [name for name, item in vars(errors).items() if isinstance(item, type)]
        self.assertEqual(sorted(found), sorted(NAMES + ["BookError"]))

    def test_names(self):
        for name, error in zip(NAMES, CLASSES):
            self.assertEqual((error.__name__, error.__module__), (name, "pagecounts.errors"))


class Values(unittest.TestCase):
    def test_value_by_position(self):
        for error in CLASSES:
            for value in (0, -7, 10 ** 40, "", "3 + 3"):
                self.assertEqual(error(value).value, value)

    def test_value_by_name(self):
        for error in CLASSES:
            for value in (0, -7, 10 ** 40, "", "3 + 3"):
                self.assertEqual(error(value=value).value, value)

    def test_value_when_raised(self):
        for error in CLASSES:
            with self.assertRaises(errors.BookError) as caught:
                raise error(5)
            self.assertIs(type(caught.exception), error)
            self.assertEqual(caught.exception.value, 5)

    def test_values_of_two_objects_are_apart(self):
        for error in CLASSES:
            first, second = error(1), error(value=2)
            self.assertEqual([first.value, second.value], [1, 2])

    def test_other_numbers_of_arguments(self):
        for error in CLASSES:
            self.assertRaises(TypeError, error)
            self.assertRaises(TypeError, error, 1, 2)
            self.assertRaises(TypeError, error, other=1)


if __name__ == "__main__":
    unittest.main()
