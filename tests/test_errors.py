"""The error classes: their base class, their attributes by position and by name, any values as parameters."""

import unittest

from loomhold import errors
from tests.helpers import FIXED_VALUES

PARAMETERS = {
    "BadLoom": ["part"], "BadCloth": ["part"], "BadText": ["line"], "BadTreadling": ["thing"], "BadChart": ["part"],
    "BadScript": ["place"], "NoTreadling": [], "OtherLoom": [], "BadRoll": ["thing"], "BadPlace": ["place"],
    "TooLong": ["most"], "NothingToUndo": [], "NoTreadle": ["letter"], "BadWishes": ["thing"], "Refused": ["rows"],
    "Kept": ["cells"], "BadCall": ["thing"], "BadLetter": ["thing"], "BadPicture": ["part"], "OtherSize": [],
    "Clash": ["paper"], "NotShown": ["crossing"], "TooMany": ["most"], "BadGrowth": ["part"], "BadPress": ["number"],
    "BadName": ["name"], "NoName": ["name"], "BadPart": ["part"], "BadPromise": ["thing"],
    "Broken": ["promise", "paper"], "OtherPicture": ["place"], "NotOfChart": ["roll"], "NothingToRedo": [],
    "InvalidCommand": [],
}


class ErrorsTest(unittest.TestCase):

    def test_base_class(self):
        self.assertEqual(errors.LoomError.__bases__, (Exception,))
        for name in PARAMETERS:
            self.assertEqual(getattr(errors, name).__bases__, (errors.LoomError,), name)

    def test_there_are_no_others(self):
        found = {name for name, thing in vars(errors).items() if isinstance(thing, type)}
        self.assertEqual(found, {"LoomError", *PARAMETERS})

    def test_attributes_by_position_and_by_name(self):
        for name, parameters in PARAMETERS.items():
            made = getattr(errors, name)
            for value in FIXED_VALUES:
                bears = {parameter: (parameter, value) for parameter in parameters}
                for error in (made(*bears.values()), made(**bears)):
                    for parameter in parameters:
                        self.assertIs(getattr(error, parameter), bears[parameter])

    def test_the_value_itself_is_borne(self):
        value = [1, {"a": ()}]
        self.assertIs(errors.BadRoll(value).thing, value)
        self.assertIs(errors.Broken(1, paper=value).paper, value)

    def test_raised_and_caught(self):
        for name, parameters in PARAMETERS.items():
            with self.assertRaises(errors.LoomError):
                raise getattr(errors, name)(*parameters)

    def test_parameters_are_asked(self):
        for name, parameters in PARAMETERS.items():
            if parameters:
                with self.assertRaises(TypeError):
                    getattr(errors, name)()


if __name__ == "__main__":
    unittest.main()
