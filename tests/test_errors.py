import copy
import inspect
import unittest

from framemoves import errors
from framemoves.errors import MoveError

FIELDS = {"Wrong": ["place"], "BadAct": ["name"], "BadPlace": ["at"], "BadMove": ["at"], "BadFunction": ["name"],
          "Unlike": [], "TooMany": ["limit"], "NoPlace": ["place"], "NoVersion": ["number"], "NoFunction": ["name"],
          "NoSolution": [], "Unfit": [], "Broken": ["at"], "Full": ["limit"], "NoDeed": [], "Nothing": [],
          "NoEntry": ["many"], "NoText": []}


class ErrorsTest(unittest.TestCase):
    def test_all_classes_are_there(self):
        own = {name for name, thing in vars(errors).items() if inspect.isclass(thing)}
        self.assertEqual(own, set(FIELDS) | {"MoveError"})
        self.assertEqual(len(FIELDS), 18)

    def test_bases(self):
        self.assertEqual(MoveError.__bases__, (ValueError,))
        for name in FIELDS:
            self.assertEqual(getattr(errors, name).__bases__, (MoveError,), name)

    def test_signatures(self):
        for name, fields in FIELDS.items():
            self.assertEqual(list(inspect.signature(getattr(errors, name)).parameters), fields, name)

    def test_fields_are_the_objects_themselves(self):
        for name, fields in FIELDS.items():
            for thing in [[1, [2]], {"a": []}, None, object(), -3, "x" * 1000, float, {1, 2}, lambda: 0]:
                error = getattr(errors, name)(*[thing] * len(fields))
                self.assertEqual(sorted(vars(error)), fields)
                for field in fields:
                    self.assertIs(getattr(error, field), thing)

    def test_what_is_kept_is_no_copy(self):
        given = [1]
        error = errors.Wrong(given)
        given.append(2)
        self.assertEqual(error.place, [1, 2])

    def test_they_take_as_many_as_they_have(self):
        for name, fields in FIELDS.items():
            with self.assertRaises(TypeError):
                getattr(errors, name)(*[1] * (len(fields) + 1))
            if fields:
                with self.assertRaises(TypeError):
                    getattr(errors, name)()

    def test_they_can_be_raised_and_caught(self):
        for name, fields in FIELDS.items():
            error = getattr(errors, name)(*[7] * len(fields))
            for base in (MoveError, ValueError, getattr(errors, name)):
                with self.assertRaises(base) as caught:
                    raise error
                self.assertIs(caught.exception, error)
        with self.assertRaises(MoveError):
            raise MoveError()

    def test_they_can_be_copied(self):
        self.assertEqual(copy.copy(errors.BadAct("go")).name, "go")


if __name__ == "__main__":
    unittest.main()
