"""[60]: the error classes."""
import unittest

from alldeeds import errors

FIELDS = {
    "BadValue": ("value",),
    "TooDeep": ("most",),
    "TooMany": ("most",),
    "NotAText": ("at",),
    "WrongStep": ("at",),
    "Unlike": (),
    "Unknown": ("name",),
    "Taken": ("name",),
    "NotAFile": ("line", "at"),
    "BadPromise": ("promise",),
    "Broken": ("promise", "paper"),
    "NotMade": ("promise",),
    "NothingToUndo": (),
    "NothingToRedo": (),
    "CannotTake": ("end",),
    "NotOfDeed": (),
    "WrongTerm": ("path",),
    "NotOfProgram": ("at",),
    "HasHand": ("at",),
}


class Thing:
    """A value that is equal to itself alone."""


def values():
    """Values of many kinds."""
    return [0, -7, True, None, "", "x y", 2.5, (1, (2,)), [1, [2]], {"a": [1]}, Thing(), ValueError("x"), Thing, b"x"]


class Errors(unittest.TestCase):
    def check(self, name, error, told):
        for field, value in zip(FIELDS[name], told):
            self.assertIs(getattr(error, field), value)

    def test_fields_are_kept_as_they_are(self):
        for name, fields in FIELDS.items():
            made = getattr(errors, name)
            for value in values():
                for other in values() if len(fields) == 2 else [None]:
                    told = (value, other)[:len(fields)]
                    with self.subTest(name=name, told=repr(told)):
                        self.check(name, made(*told), told)
                        self.check(name, made(**dict(zip(fields, told))), told)
                        if len(fields) == 2:
                            self.check(name, made(told[0], **{fields[1]: told[1]}), told)
                            self.check(name, made(**{fields[1]: told[1], fields[0]: told[0]}), told)

    def test_fields_are_needed(self):
        for name, fields in FIELDS.items():
            if fields:
                with self.subTest(name=name):
                    self.assertRaises(TypeError, getattr(errors, name))
                    self.assertRaises(TypeError, getattr(errors, name), **{fields[0]: 1, "other": 2})

    def test_deep_and_changing_values(self):
        deep = ()
        for _ in range(3000):
            deep = (deep,)
        self.assertIs(errors.BadValue(deep).value, deep)
        rows = [1]
        error = errors.BadValue(value=rows)
        rows.append(2)
        self.assertIs(error.value, rows)

    def test_kinds(self):
        self.assertEqual(errors.DeedError.__bases__, (ValueError,))
        for name, fields in FIELDS.items():
            with self.subTest(name=name):
                made = getattr(errors, name)
                self.assertEqual(made.__bases__, (errors.DeedError,))
                error = made(*[1] * len(fields))
                self.assertIsInstance(error, ValueError)
                for other in FIELDS:
                    self.assertEqual(isinstance(error, getattr(errors, other)), other == name)

    def test_they_can_be_raised_and_caught(self):
        for name, fields in FIELDS.items():
            with self.subTest(name=name):
                made = getattr(errors, name)
                with self.assertRaises(errors.DeedError) as caught:
                    raise made(*[3] * len(fields))
                self.assertEqual([getattr(caught.exception, field) for field in fields], [3] * len(fields))
        with self.assertRaises(ValueError):
            raise errors.DeedError()


if __name__ == "__main__":
    unittest.main()
