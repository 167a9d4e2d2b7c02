"""[0.3]: the errors, those of later parts too."""

import copy
import unittest

from howmanyslips import errors
from tests.helpers import JUNK

PARAMETERS = {
    "BadGame": ("thing",), "BadText": ("at",), "BadLasso": ("thing",), "BadPath": ("thing",),
    "BadPlan": ("thing",), "BadPlace": ("thing",), "BadPlaces": ("thing",), "BadNumber": ("thing",),
    "BadBudget": ("thing",), "BadAttack": ("thing",), "BadController": ("thing",), "BadLot": ("thing",),
    "BadDeed": ("thing",), "BrokenPromise": ("v",), "NothingToUndo": (), "NothingToRedo": (),
}


class ErrorsTest(unittest.TestCase):
    def test_the_base_class(self):
        self.assertEqual(errors.SlipError.__bases__, (Exception,))

    def test_each_error_derives_from_the_base_class_alone(self):
        for name in PARAMETERS:
            with self.subTest(name=name):
                self.assertEqual(getattr(errors, name).__bases__, (errors.SlipError,))

    def test_there_are_no_other_errors(self):
        found = [name for name, value in vars(errors).items() if isinstance(value, type)]
        self.assertEqual(sorted(found), sorted([*PARAMETERS, "SlipError"]))

    def test_parameters_are_attributes_whatever_they_are(self):
        endless = []
        endless.append(endless)
        for name, parameters in PARAMETERS.items():
            for value in (*JUNK, 10 ** 5000, endless, "{thing}", "%s", errors.BadGame(1), object()):
                with self.subTest(name=name):
                    kind = getattr(errors, name)
                    for error in (kind(*[value] * len(parameters)), kind(**{word: value for word in parameters})):
                        self.assertEqual(list(vars(error)), list(parameters))
                        for word in parameters:
                            self.assertIs(getattr(error, word), value)

    def test_errors_can_be_raised_shown_and_copied(self):
        for name, parameters in PARAMETERS.items():
            with self.subTest(name=name):
                kind = getattr(errors, name)
                with self.assertRaises(errors.SlipError) as caught:
                    raise kind(*[10 ** 5000] * len(parameters))
                self.assertIsInstance(str(caught.exception), str)
                self.assertIsInstance(repr(caught.exception), str)
                self.assertEqual(vars(copy.deepcopy(caught.exception)), vars(caught.exception))

    def test_errors_take_just_their_parameters(self):
        for name, parameters in PARAMETERS.items():
            if parameters:
                with self.subTest(name=name), self.assertRaises(TypeError):
                    getattr(errors, name)()


if __name__ == "__main__":
    unittest.main()
