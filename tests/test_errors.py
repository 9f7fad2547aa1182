"""2.2: the errors of underwraps.errors and underwraps.refusals."""

import copy
import unittest

from tests.tools import Hostile, odd_things
from underwraps import errors, refusals
from underwraps.errors import WrapError

PARAMETERS = {
    "BadRoles": "roles", "BadLabels": "labels", "BadPermits": "index", "BadBook": "book", "BadStart": "index",
    "BadOther": "other", "BadNames": "names", "BadKey": "key", "BadLabel": "label", "BadThing": "thing",
    "BadThings": "index", "BadChest": "chest", "BadCall": "call", "NoHandle": "handle", "NoPermit": "permit",
    "NotKnown": "thing", "NotUnder": "thing", "NotKey": "thing", "BadLog": "index", "BadIndex": "index",
    "Untold": "key", "BadBehind": "index", "BadTies": "index", "BadRoot": "root", "BadAsked": "asked",
    "BadStates": "states", "BadMachine": "machine", "BadSecond": "second", "BadHouse": "house", "BadState": "state",
    "BadQuestions": "index", "BadRows": "index", "BadProof": "proof", "BadFirst": "index", "BadTable": "table",
}
REFUSALS = {
    "BadMany": "many", "BadWord": "word", "BadRow": "row", "BadMate": "mate", "BadLot": "lot", "BadRole": "role",
    "BadBooks": "index", "BadStarts": "index", "NoHouse": "house", "BadHousesLog": "index", "BadSome": "some",
    "BadHeld": "asked", "BadPermit": "permit", "BadSecrets": "index", "BadLots": "index", "BadPrices": "prices",
    "BadPrice": "price", "BadCustody": "custody", "BadTellers": "tellers", "IsAllowed": "permit", "NotAllowed": "permit",
    "BadGiven": "some", "IsGuarded": "asked", "NotGuarded": "asked", "LetsOut": "asked", "BadBookText": "line sign",
    "BadStartText": "line sign", "BadThingText": "line sign", "BadCalls": "index", "BadLogText": "line sign",
    "BadMachineText": "line sign",
}
ALL = [(getattr(errors, name), names.split()) for name, names in PARAMETERS.items()]
ALL += [(getattr(refusals, name), names.split()) for name, names in REFUSALS.items()]


def defined_in(module):
    """Return, ascending, the names of the classes that a module defines itself."""
    found = [value for value in vars(module).values() if isinstance(value, type)]
    return sorted([value.__name__ for value in found if value.__module__ == module.__name__])


class TestErrors(unittest.TestCase):
    def test_all_of_the_rows_and_no_more(self):
        self.assertEqual(defined_in(errors), sorted(list(PARAMETERS) + ["WrapError"]))
        self.assertEqual(defined_in(refusals), sorted(REFUSALS))

    def test_right_beneath_wrap_error_alone(self):
        self.assertEqual(WrapError.__bases__, (ValueError,))
        for error, _ in ALL:
            self.assertEqual(error.__bases__, (WrapError,), error)

    def test_keeps_the_very_object(self):
        for error, names in ALL:
            for thing in odd_things():
                things = [thing, Hostile()][:len(names)]
                for made in (error(*things), error(**dict(zip(names, things)))):
                    self.assertEqual(list(vars(made)), names)
                    for name, held in zip(names, things):
                        self.assertIs(getattr(made, name), held)

    def test_what_is_made_stays_itself(self):
        held = [1]
        error = errors.BadRoles(held)
        held.append(2)
        self.assertEqual(error.roles, [1, 2])
        self.assertIs(copy.copy(error).roles, held)

    def test_each_asks_for_its_parameters(self):
        for error, names in ALL:
            for many in (0, len(names) + 1):
                with self.assertRaises(TypeError):
                    error(*[1] * many)

    def test_can_be_caught_as_value_error(self):
        for error in (errors.BadKey(Hostile()), refusals.BadBookText(Hostile(), None), refusals.LetsOut(None)):
            with self.assertRaises(ValueError):
                raise error
