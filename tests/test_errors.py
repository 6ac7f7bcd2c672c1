"""[0.3]: the errors."""

import unittest

from tellsless import errors
from tests.things import strange

PLAIN = """NoPath NoInside TooLarge NotAlike NotBetween NoTest NoPrior NoGains NoAsker NotLooks NotLook NotOneRound
NoShare NotShaped NoTable NoNumber NoMenu NoBudget NoItem NotRefused Stopped NoWorld NoDisk NoThrow NoMediator NoLine
NothingDone""".split()
FIELDS = {
    "BadHouse": "place", "BadProgram": "part", "NoAnswer": "talk", "BadMachine": "part", "BadText": "line",
    "NoName": "name",
}


class Errors(unittest.TestCase):
    def test_bases(self):
        self.assertEqual(errors.HouseError.__bases__, (ValueError,))
        for name in PLAIN + list(FIELDS):
            self.assertEqual(getattr(errors, name).__bases__, (errors.HouseError,), name)

    def test_all_are_there_and_no_others(self):
        defined = [name for name, thing in vars(errors).items() if isinstance(thing, type)]
        self.assertEqual(sorted(defined), sorted(PLAIN + list(FIELDS) + ["HouseError"]))

    def test_plain_ones_have_no_fields(self):
        for name in PLAIN:
            self.assertEqual(vars(getattr(errors, name)()), {}, name)

    def test_fields_are_kept_as_they_were_passed(self):
        for name, field in FIELDS.items():
            for thing in strange():
                error = getattr(errors, name)(thing)
                self.assertEqual(list(vars(error)), [field], name)
                self.assertIs(getattr(error, field), thing, name)

    def test_fields_are_needed(self):
        for name in FIELDS:
            with self.assertRaises(TypeError):
                getattr(errors, name)()


if __name__ == "__main__":
    unittest.main()
