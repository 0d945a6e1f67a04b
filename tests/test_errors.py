"""Promise 1: the errors, their attributes and their base classes."""

import unittest

from pooledeyes import errors
from tests.anyvalues import any_values

OF_POOLED = {
    "InvalidName": ["value"], "InvalidNumber": ["value"], "InvalidText": ["at"], "InvalidCircle": ["at"],
    "InvalidTie": ["at"], "InvalidParting": ["value"], "InvalidCase": ["value"], "InvalidGrant": ["at"],
    "InvalidBan": ["at"], "InvalidShare": ["at"], "InvalidSaying": ["at"], "InvalidLog": ["at"],
    "InvalidLot": ["at"], "InvalidEyes": [], "InvalidDeed": ["at"], "InvalidQuestion": [],
    "TooMany": ["what", "most"], "NotAlike": ["one", "other"], "CommonShown": ["at"], "NotPooled": [],
    "UnlikeSketches": [], "NotSafe": ["at"], "CannotStand": ["at"], "NameTaken": ["name"], "InUse": ["name"],
}
OF_MISSING = {
    "UnknownName": ["name"], "UnknownEye": ["name"], "UnknownGrant": ["at"], "UnknownBan": ["at"],
    "UnknownShare": ["at"], "UnknownSaying": ["at"],
}
OF_PYTHON = {"PooledError": ValueError, "Missing": LookupError, "NothingLeft": IndexError}


def all_parameters():
    """A dict from the names of all classes to the names of their parameters."""
    return {**OF_POOLED, **OF_MISSING, **{name: [] for name in OF_PYTHON}}


def base_of(name):
    """The class that is to be the direct base class of the one with a name."""
    if name in OF_POOLED:
        return errors.PooledError
    if name in OF_MISSING:
        return errors.Missing
    return OF_PYTHON[name]


def is_under(name, other):
    """Whether the class with the first name is to be a subclass of the one with the second name."""
    return name == other or base_of(name) is getattr(errors, other)


class ErrorsTest(unittest.TestCase):
    def test_direct_base_classes(self):
        for name in all_parameters():
            self.assertEqual(getattr(errors, name).__bases__, (base_of(name),), name)

    def test_defined_in_this_file(self):
        for name in all_parameters():
            self.assertEqual(getattr(errors, name).__module__, "pooledeyes.errors")

    def test_there_are_no_others(self):
        found = [name for name in vars(errors) if name[0].isupper()]
        self.assertEqual(sorted(found), sorted(all_parameters()))

    def test_no_error_is_one_of_another_class(self):
        for name in all_parameters():
            for other in all_parameters():
                held = issubclass(getattr(errors, name), getattr(errors, other))
                self.assertEqual(held, is_under(name, other), (name, other))

    def test_python_bases_are_kept_apart(self):
        for name in OF_POOLED:
            self.assertFalse(issubclass(getattr(errors, name), LookupError), name)
        for name in list(OF_MISSING) + ["NothingLeft"]:
            self.assertFalse(issubclass(getattr(errors, name), ValueError), name)
        for name in OF_MISSING:
            self.assertFalse(issubclass(getattr(errors, name), IndexError), name)

    def test_parameters_by_place_become_attributes(self):
        for name, parameters in all_parameters().items():
            for value in any_values():
                passed = [(place, value) for place in range(len(parameters))]
                error = getattr(errors, name)(*passed)
                for place, parameter in enumerate(parameters):
                    self.assertIs(getattr(error, parameter), passed[place])

    def test_parameters_by_name_become_attributes(self):
        for name, parameters in all_parameters().items():
            for value in any_values():
                error = getattr(errors, name)(**{parameter: value for parameter in parameters})
                for parameter in parameters:
                    self.assertIs(getattr(error, parameter), value)

    def test_the_names_in_any_order(self):
        error = errors.TooMany(most=60, what="eyes")
        self.assertEqual((error.what, error.most), ("eyes", 60))
        error = errors.NotAlike(other=2, one=1)
        self.assertEqual((error.one, error.other), (1, 2))

    def test_parameters_must_be_passed(self):
        for name, parameters in all_parameters().items():
            if parameters:
                with self.assertRaises(TypeError):
                    getattr(errors, name)()

    def test_a_raised_one_is_caught_by_its_class(self):
        for name, parameters in all_parameters().items():
            kind = getattr(errors, name)
            with self.assertRaises(kind) as caught:
                raise kind(*parameters)
            self.assertIs(type(caught.exception), kind)

    def test_a_raised_one_is_caught_by_its_base_class(self):
        for name, parameters in all_parameters().items():
            with self.assertRaises(base_of(name)) as caught:
                raise getattr(errors, name)(*parameters)
            for parameter in parameters:
                self.assertEqual(getattr(caught.exception, parameter), parameter)

    def test_a_raised_one_is_caught_by_the_base_class_of_python(self):
        with self.assertRaises(ValueError):
            raise errors.InvalidText(3)
        with self.assertRaises(LookupError):
            raise errors.UnknownGrant(3)
        with self.assertRaises(IndexError):
            raise errors.NothingLeft()


if __name__ == "__main__":
    unittest.main()
