"""callsheard/errors.py: base classes and attributes."""

import unittest

from callsheard import errors

DIRECT = {
    "BadHouse": ["place"], "TooLarge": ["size"], "OutOfRange": ["count"], "NotAnOrder": [], "NotForced": [],
    "NotAForm": [], "NoLog": ["part"], "BadFact": ["part", "place"], "Impossible": [], "BadText": ["place"],
    "BadWeave": [], "BadLine": ["number", "reason"], "Refused": [],
}
REFUSED = {
    "NoRoom": ["room"], "BadWord": [], "BadLook": ["place"], "NoDoor": ["door"], "Known": ["door"],
    "Clash": ["answer"], "Full": [], "NothingToUndo": [], "NothingToRedo": [], "BadQuestion": ["question"],
}
VALUES = [(3, "clash"), (None, []), ("words", -1), ((1, 0), {"a": 1}), ([0], ())]


class ErrorsTest(unittest.TestCase):
    def test_base_class(self):
        self.assertEqual(errors.CallsError.__bases__, (ValueError,))

    def test_direct_subclasses(self):
        for name in DIRECT:
            self.assertEqual(getattr(errors, name).__bases__, (errors.CallsError,), name)

    def test_subclasses_of_refused(self):
        for name in REFUSED:
            self.assertEqual(getattr(errors, name).__bases__, (errors.Refused,), name)

    def test_attributes_are_kept_as_they_are(self):
        for name, attributes in {**DIRECT, **REFUSED}.items():
            for values in VALUES:
                passed = values[:len(attributes)]
                error = getattr(errors, name)(*passed)
                for attribute, value in zip(attributes, passed):
                    self.assertIs(getattr(error, attribute), value, name)

    def test_arguments_have_the_names_of_the_attributes(self):
        for name, attributes in {**DIRECT, **REFUSED}.items():
            passed = dict(zip(attributes, ("one", "two")))
            error = getattr(errors, name)(**passed)
            for attribute, value in passed.items():
                self.assertEqual(getattr(error, attribute), value, name)

    def test_two_errors_of_a_class_keep_their_own_values(self):
        first, second = errors.BadFact("words", 1), errors.BadFact("pairs", 2)
        self.assertEqual((first.part, first.place, second.part, second.place), ("words", 1, "pairs", 2))

    def test_each_can_be_raised_and_caught_by_its_bases(self):
        for name, attributes in {**DIRECT, **REFUSED}.items():
            error = getattr(errors, name)
            for base in (error, errors.CallsError, ValueError) + ((errors.Refused,) if name in REFUSED else ()):
                with self.assertRaises(base):
                    raise error(*[1] * len(attributes))

    def test_refused_does_not_catch_the_others(self):
        for name in DIRECT:
            if name != "Refused":
                self.assertFalse(issubclass(getattr(errors, name), errors.Refused), name)
