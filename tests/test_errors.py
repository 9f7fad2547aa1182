"""2.2: the errors of underwraps.errors."""

import copy
import unittest

from tests.tools import Hostile, odd_things
from underwraps import errors
from underwraps.errors import WrapError

PARAMETERS = {
    "BadRoles": "roles", "BadLabels": "labels", "BadPermits": "index", "BadBook": "book", "BadStart": "index",
    "BadOther": "other", "BadNames": "names", "BadKey": "key", "BadLabel": "label", "BadThing": "thing",
    "BadThings": "index", "BadChest": "chest", "BadCall": "call", "NoHandle": "handle", "NoPermit": "permit",
    "NotKnown": "thing", "NotUnder": "thing", "NotKey": "thing", "BadLog": "index", "BadIndex": "index",
    "Untold": "key", "BadBehind": "index", "BadTies": "index", "BadRoot": "root", "BadAsked": "asked",
    "BadStates": "states", "BadMachine": "machine", "BadSecond": "second", "BadHouse": "house", "BadState": "state",
    "BadQuestions": "index", "BadRows": "index", "BadProof": "proof", "BadFirst": "index", "BadTable": "table",
}


class TestErrors(unittest.TestCase):
    def test_all_of_the_row_and_no_more(self):
        found = [name for name, value in vars(errors).items() if isinstance(value, type)]
        self.assertEqual(sorted(found), sorted(list(PARAMETERS) + ["WrapError"]))

    def test_right_beneath_wrap_error_alone(self):
        self.assertEqual(WrapError.__bases__, (ValueError,))
        for name in PARAMETERS:
            self.assertEqual(getattr(errors, name).__bases__, (WrapError,), name)

    def test_keeps_the_very_object(self):
        for name, parameter in PARAMETERS.items():
            for thing in odd_things():
                for error in (getattr(errors, name)(thing), getattr(errors, name)(**{parameter: thing})):
                    self.assertEqual(list(vars(error)), [parameter])
                    self.assertIs(getattr(error, parameter), thing)

    def test_what_is_made_stays_itself(self):
        held = [1]
        error = errors.BadRoles(held)
        held.append(2)
        self.assertEqual(error.roles, [1, 2])
        self.assertIs(copy.copy(error).roles, held)

    def test_each_asks_for_its_parameter(self):
        for name in PARAMETERS:
            with self.assertRaises(TypeError):
                getattr(errors, name)()
            with self.assertRaises(TypeError):
                getattr(errors, name)(1, 2)

    def test_can_be_caught_as_value_error(self):
        with self.assertRaises(ValueError):
            raise errors.BadKey(Hostile())
