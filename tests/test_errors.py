import unittest

from featureunion import errors
from support import Plain, deep_things, other_things

WITH_VALUE = [
    "BadRequest", "BadUsers", "UnknownUser", "NoHull", "NotAdditive", "BadLibrary",
    "BadName", "TakenName", "BadItems", "BadNumber", "BadText", "BadLine",
]
WITHOUT = ["OtherManifest", "FullBuild", "NothingToUndo"]


def error_class(name):
    return getattr(errors, name)


def created(name):
    return error_class(name)("a") if name in WITH_VALUE else error_class(name)()


class Classes(unittest.TestCase):
    def test_base(self):
        self.assertEqual(errors.FeatureError.__bases__, (ValueError,))

    def test_each_is_a_direct_subclass(self):
        for name in WITH_VALUE + WITHOUT:
            with self.subTest(name=name):
                self.assertEqual(error_class(name).__name__, name)
                self.assertEqual(error_class(name).__bases__, (errors.FeatureError,))

    def test_there_are_fifteen(self):
        self.assertEqual(len({error_class(name) for name in WITH_VALUE + WITHOUT}), 15)

    def test_instance_of_its_own_class_and_of_no_other(self):
        for name in WITH_VALUE + WITHOUT:
            error = created(name)
            with self.subTest(name=name):
                self.assertIsInstance(error, error_class(name))
                self.assertIsInstance(error, errors.FeatureError)
                self.assertIsInstance(error, ValueError)
            for other in WITH_VALUE + WITHOUT:
                if other != name:
                    with self.subTest(name=name, other=other):
                        self.assertNotIsInstance(error, error_class(other))

    def test_raised_and_caught(self):
        for name in WITH_VALUE + WITHOUT:
            for caught in (error_class(name), errors.FeatureError, ValueError):
                with self.subTest(name=name, caught=caught):
                    error = created(name)
                    with self.assertRaises(caught) as context:
                        raise error
                    self.assertIs(context.exception, error)

    def test_message_can_be_made(self):
        for name in WITH_VALUE + WITHOUT:
            with self.subTest(name=name):
                self.assertIsInstance(str(created(name)), str)


class Values(unittest.TestCase):
    def test_keeps_the_very_object(self):
        values = other_things() + deep_things(30)
        values += ["a", (), ("a",), ("a", "b"), (("a", ("b",)),), ((), "std", "panic")]
        for name in WITH_VALUE:
            for value in values:
                with self.subTest(name=name, value=value):
                    self.assertIs(error_class(name)(value).value, value)

    def test_value_is_not_changed(self):
        for name in WITH_VALUE:
            value = [1, ["a"], {"b": [2]}]
            error = error_class(name)(value)
            with self.subTest(name=name):
                self.assertEqual(value, [1, ["a"], {"b": [2]}])
                self.assertIs(error.value, value)

    def test_each_object_has_its_own_value(self):
        values = [None, [], "a", ("a",), Plain()]
        made = [(error_class(name)(value), value) for name in WITH_VALUE for value in values]
        for error, value in made:
            with self.subTest(error=error):
                self.assertIs(error.value, value)

    def test_value_after_raising(self):
        for name in WITH_VALUE:
            value = ["a", ("b",)]
            with self.subTest(name=name):
                with self.assertRaises(error_class(name)) as context:
                    raise error_class(name)(value)
                self.assertIs(context.exception.value, value)


if __name__ == "__main__":
    unittest.main()
