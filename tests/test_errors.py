"""[2]: the errors of the package."""

import unittest

from everyorder import errors

# The name of each error below EveryError, and of the attribute that it keeps.
ATTRIBUTES = {
    "BadWord": "index",
    "BadText": "line",
    "BadSize": "size",
    "BadCall": "call",
    "BadNumber": "number",
    "BadPlace": "place",
    "BadThing": "thing",
    "BadRow": "index",
    "NotWhole": "size",
    "NotClosed": "size",
    "NoLevel": "size",
    "NoList": "size",
}
BARE = ("Mixed", "NothingToUndo")

# The last one is an integer whose text Python refuses to make.
VALUES = (0, 7, -3, 10 ** 40, True, None, "turn", "", 1.5, b"x", (1, 2), [1, [2]], {"a": 1}, object(), 10 ** 6000)


class ErrorTest(unittest.TestCase):
    def test_there_are_fourteen(self):
        told = [name for name, kind in vars(errors).items()
                if isinstance(kind, type) and kind is not errors.EveryError]
        self.assertEqual(sorted(told), sorted([*ATTRIBUTES, *BARE]))
        self.assertEqual(len(told), 14)

    def test_every_error_is_a_value_error(self):
        self.assertEqual(errors.EveryError.__bases__, (ValueError,))

    def test_each_stands_directly_below_every_error(self):
        for name in [*ATTRIBUTES, *BARE]:
            with self.subTest(name=name):
                kind = getattr(errors, name)
                self.assertEqual(kind.__name__, name)
                self.assertEqual(kind.__module__, "everyorder.errors")
                self.assertEqual(kind.__bases__, (errors.EveryError,))
                self.assertTrue(issubclass(kind, ValueError))

    def test_none_stands_below_another_one(self):
        kinds = [getattr(errors, name) for name in [*ATTRIBUTES, *BARE]]
        for kind in kinds:
            for other in kinds:
                if kind is not other:
                    self.assertFalse(issubclass(kind, other), (kind, other))

    def test_the_attribute_is_the_value_itself(self):
        for name, attribute in ATTRIBUTES.items():
            for at, value in enumerate(VALUES):
                with self.subTest(name=name, at=at):
                    error = getattr(errors, name)(value)
                    self.assertIs(getattr(error, attribute), value)
                    self.assertEqual(list(vars(error)), [attribute])

    def test_the_bare_ones_take_nothing(self):
        for name in BARE:
            with self.subTest(name=name):
                self.assertIsInstance(getattr(errors, name)(), errors.EveryError)

    def test_each_can_be_raised_and_caught(self):
        for name, attribute in ATTRIBUTES.items():
            for at, value in enumerate(VALUES):
                with self.subTest(name=name, at=at):
                    kind = getattr(errors, name)
                    with self.assertRaises(errors.EveryError) as caught:
                        raise kind(value)
                    self.assertIs(type(caught.exception), kind)
                    self.assertIs(getattr(caught.exception, attribute), value)
        for name in BARE:
            with self.assertRaises(ValueError) as caught:
                raise getattr(errors, name)()
            self.assertIs(type(caught.exception), getattr(errors, name))


if __name__ == "__main__":
    unittest.main()
