import unittest

from thawedwrites import errors

# Each class, its base class, and the attributes in the order of the constructor's arguments.
CLASSES = {
    "ThawError": ("ValueError", None),
    "InvalidHeap": ("ThawError", ["part", "where"]),
    "InvalidProgram": ("ThawError", ["part", "place"]),
    "InvalidFacts": ("ThawError", ["part"]),
    "InvalidArgument": ("ThawError", ["part"]),
    "InvalidText": ("ThawError", ["line"]),
    "LimitExceeded": ("ThawError", ["limit"]),
    "RunError": ("ThawError", ["name"]),
    "Hollow": ("RunError", ["name"]),
    "Refused": ("RunError", ["name"]),
}


class ErrorsTest(unittest.TestCase):
    def test_each_class_has_its_base_alone(self):
        for name, (base, _) in CLASSES.items():
            one = getattr(errors, name)
            self.assertEqual([b.__name__ for b in one.__bases__], [base], name)
            self.assertEqual(one.__module__, "thawedwrites.errors")

    def test_there_are_no_other_classes(self):
        told = [name for name, value in vars(errors).items() if isinstance(value, type)]
        self.assertEqual(sorted(told), sorted(CLASSES))

    def test_no_class_is_a_subclass_of_another_except_as_told(self):
        above = {"ThawError": [], "Hollow": ["RunError", "ThawError"], "Refused": ["RunError", "ThawError"]}
        for name in CLASSES:
            told = [name] + above.get(name, ["ThawError"])
            found = [other for other in CLASSES if issubclass(getattr(errors, name), getattr(errors, other))]
            self.assertEqual(sorted(found), sorted(told))

    def test_attributes_in_the_order_of_the_arguments(self):
        for name, (_, attributes) in CLASSES.items():
            for values in [["one", "two"], [None, None], [1, (2, 0, 3)]]:
                if attributes is not None:
                    error = getattr(errors, name)(*values[:len(attributes)])
                    self.assertEqual([getattr(error, each) for each in attributes], values[:len(attributes)])

    def test_other_numbers_of_arguments_are_refused(self):
        for name, (_, attributes) in CLASSES.items():
            if attributes is not None:
                for many in [len(attributes) - 1, len(attributes) + 1]:
                    with self.assertRaises(TypeError):
                        getattr(errors, name)(*["a"] * many)

    def test_only_the_told_attributes(self):
        for name, (_, attributes) in CLASSES.items():
            if attributes is not None:
                error = getattr(errors, name)(*["a"] * len(attributes))
                self.assertEqual(sorted(vars(error)), sorted(attributes))

    def test_they_are_raised_and_caught_by_their_bases(self):
        for name, (_, attributes) in CLASSES.items():
            with self.assertRaises(ValueError):
                raise getattr(errors, name)(*["a"] * len(attributes or []))
            with self.assertRaises(errors.ThawError):
                raise getattr(errors, name)(*["a"] * len(attributes or []))

    def test_the_message_tells_what_is_wrong(self):
        self.assertIn("object", str(errors.InvalidHeap("object", 7)))
        self.assertIn("7", str(errors.InvalidHeap("object", 7)))
        self.assertIn("(0, 1, 2)", str(errors.InvalidProgram("name", (0, 1, 2))))
        self.assertIn("2000", str(errors.LimitExceeded(2000)))


if __name__ == "__main__":
    unittest.main()
