"""[errors.py] Every class, by position and by name, its attributes and its base class."""

import inspect
import unittest

from tests.helpers import any_values, same
from withintwo import errors

PARAMETERS = {
    "BadTable": ["thing"], "BadWeb": ["thing"], "BadPlace": ["thing"], "BadLot": ["thing"], "BadRow": ["thing"],
    "BadTurning": ["thing"], "BadFraction": ["thing"], "BadNumber": ["thing"], "BadText": ["at"],
    "BadRows": ["thing"], "BadRoot": ["thing"], "BadKind": ["thing"], "BadTies": ["thing"], "BadTriples": ["thing"],
    "TooLow": ["row"], "TooHigh": ["row"], "Beyond": ["row"], "NotJoined": [], "NotLine": ["lot"],
    "NotEven": ["certificate"], "BadChange": ["at"], "BadPromise": ["thing"], "Broken": ["promise", "certificate"],
    "Full": [], "LastPlace": [], "NothingToUndo": [], "NothingToRedo": [],
}


class ErrorTests(unittest.TestCase):
    def test_base_class(self):
        self.assertEqual(errors.TableError.__bases__, (Exception,))
        self.assertEqual(errors.TableError.__module__, "withintwo.errors")
        with self.assertRaises(errors.TableError):
            raise errors.TableError()

    def test_each_is_a_direct_subclass(self):
        for name in PARAMETERS:
            found = getattr(errors, name)
            self.assertTrue(inspect.isclass(found), name)
            self.assertEqual(found.__bases__, (errors.TableError,), name)
            self.assertEqual((found.__name__, found.__module__), (name, "withintwo.errors"))

    def test_they_are_different_classes(self):
        found = [getattr(errors, name) for name in PARAMETERS]
        self.assertEqual(len({id(one) for one in found}), len(PARAMETERS))

    def test_attributes_by_position_and_by_name(self):
        for name, parameters in PARAMETERS.items():
            made = getattr(errors, name)
            for value in any_values():
                values = [value, (value, 5)][:len(parameters)]
                for error in (made(*values), made(**dict(zip(parameters, values)))):
                    told = [getattr(error, parameter) for parameter in parameters]
                    self.assertTrue(all(one is other for one, other in zip(told, values)), name)
                    self.assertTrue(same(told, values), name)

    def test_each_can_be_raised_and_caught(self):
        for name, parameters in PARAMETERS.items():
            made = getattr(errors, name)
            values = [(3, "x"), None][:len(parameters)]
            for base in (made, errors.TableError, Exception):
                with self.assertRaises(base) as caught:
                    raise made(*values)
                self.assertEqual([getattr(caught.exception, parameter) for parameter in parameters], values)


if __name__ == "__main__":
    unittest.main()
