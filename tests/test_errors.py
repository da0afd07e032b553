import unittest

from noisebound import errors
from noisebound.errors import NoiseboundError
from tests.tools import ATTRIBUTES


class ErrorsTest(unittest.TestCase):

    def test_all_classes_are_there_and_no_other(self):
        found = [name for name in dir(errors) if isinstance(getattr(errors, name), type)]
        self.assertEqual(sorted(found), sorted([*ATTRIBUTES, "NoiseboundError"]))
        self.assertEqual(len(ATTRIBUTES), 18)

    def test_bases(self):
        self.assertEqual(NoiseboundError.__bases__, (ValueError,))
        for name in ATTRIBUTES:
            self.assertEqual(getattr(errors, name).__bases__, (NoiseboundError,))

    def test_defined_in_errors(self):
        for name in ATTRIBUTES:
            self.assertEqual(getattr(errors, name).__module__, "noisebound.errors")

    def test_attributes(self):
        for name, words in ATTRIBUTES.items():
            values = [f"value {place}" for place in range(len(words))]
            error = getattr(errors, name)(*values)
            self.assertEqual([getattr(error, word) for word in words], values)
            self.assertEqual(sorted(vars(error)), sorted(words))

    def test_attributes_by_name(self):
        for name, words in ATTRIBUTES.items():
            error = getattr(errors, name)(**{word: word * 2 for word in reversed(words)})
            self.assertEqual([getattr(error, word) for word in words], [word * 2 for word in words])

    def test_each_is_of_no_other_class(self):
        made = {name: getattr(errors, name)(*words) for name, words in ATTRIBUTES.items()}
        for name, error in made.items():
            self.assertIsInstance(error, NoiseboundError)
            self.assertIsInstance(error, ValueError)
            others = [other for other in ATTRIBUTES if isinstance(error, getattr(errors, other))]
            self.assertEqual(others, [name])

    def test_can_be_caught_by_each_base(self):
        for caught in (errors.BadText, NoiseboundError, ValueError):
            with self.assertRaises(caught):
                raise errors.BadText(3)


if __name__ == "__main__":
    unittest.main()
