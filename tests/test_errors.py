"""[1], [9]: the errors and their attributes."""

import unittest

from saidbetween import errors

ARGUMENTS = {
    "BadQuestion": ("place",),
    "BadFormula": ("place",),
    "BadTalk": ("place",),
    "BadTable": ("place",),
    "BadGrid": ("place",),
    "BadTree": ("place",),
    "BadBook": ("value",),
    "BadText": ("line", "word"),
    "BadDeed": ("place",),
    "BadParameter": ("value",),
    "NoTalk": ("pair",),
    "TooGreat": ("most",),
    "NoRow": (),
}


class ErrorsTest(unittest.TestCase):

    def test_all_errors_are_directly_beneath_the_one(self):
        self.assertEqual(errors.SaidError.__bases__, (ValueError,))
        for name in ARGUMENTS:
            self.assertEqual(getattr(errors, name).__bases__, (errors.SaidError,), name)

    def test_there_are_no_other_errors(self):
        found = {name for name, thing in vars(errors).items() if isinstance(thing, type)}
        self.assertEqual(found, set(ARGUMENTS) | {"SaidError"})

    def test_arguments_are_attributes(self):
        for name, arguments in ARGUMENTS.items():
            kind = getattr(errors, name)
            things = [object() for _ in arguments]
            for error in (kind(*things), kind(**dict(zip(arguments, things)))):
                self.assertEqual(set(vars(error)), set(arguments), name)
                for argument, thing in zip(arguments, things):
                    self.assertIs(getattr(error, argument), thing)

    def test_too_many_and_too_few_arguments_are_not_taken(self):
        for name, arguments in ARGUMENTS.items():
            kind = getattr(errors, name)
            with self.assertRaises(TypeError):
                kind(*([0] * (len(arguments) + 1)))
            if arguments:
                with self.assertRaises(TypeError):
                    kind(*([0] * (len(arguments) - 1)))

    def test_each_can_be_caught_as_what_it_is_beneath(self):
        for name, arguments in ARGUMENTS.items():
            kind = getattr(errors, name)
            for above in (errors.SaidError, ValueError):
                with self.assertRaises(above):
                    raise kind(*([0] * len(arguments)))


if __name__ == "__main__":
    unittest.main()
