import unittest

from lassoproof import errors

ATTRIBUTES = {
    "SyntaxFault": ["place"],
    "KindFault": ["place"],
    "UnknownName": ["name"],
    "DuplicateName": ["name"],
    "InvalidRange": ["name"],
    "SharedAssignment": ["label", "name"],
    "TooManyStates": ["limit"],
    "TooManyPromises": ["count"],
    "InvalidPaper": ["line"],
}


def error_class(name):
    return getattr(errors, name)


class Errors(unittest.TestCase):
    def test_the_base_class_is_a_value_error(self):
        self.assertTrue(issubclass(errors.LassoError, ValueError))

    def test_every_error_is_derived_from_the_base_class_and_from_no_other_error(self):
        for name in ATTRIBUTES:
            self.assertTrue(issubclass(error_class(name), errors.LassoError))
            for other in ATTRIBUTES:
                if other != name:
                    self.assertFalse(issubclass(error_class(name), error_class(other)))

    def test_attributes_by_position(self):
        for name, attributes in ATTRIBUTES.items():
            values = list(range(3, 3 + len(attributes)))
            error = error_class(name)(*values)
            self.assertEqual([getattr(error, word) for word in attributes], values)

    def test_attributes_by_keyword(self):
        for name, attributes in ATTRIBUTES.items():
            values = {word: f"value of {word}" for word in attributes}
            error = error_class(name)(**values)
            self.assertEqual({word: getattr(error, word) for word in attributes}, values)

    def test_errors_can_be_shown(self):
        for name, attributes in ATTRIBUTES.items():
            self.assertTrue(str(error_class(name)(*range(len(attributes)))))
