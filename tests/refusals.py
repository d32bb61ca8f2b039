"""Errors of functions, alone and together with errors that come later."""

import inspect
import unittest

from tests.helpers import told


def wants_keywords(function):
    """The names of the parameters that are passed by name only."""
    parameters = inspect.signature(function).parameters.values()
    return [parameter.name for parameter in parameters if parameter.kind is parameter.KEYWORD_ONLY]


class InOrder(unittest.TestCase):
    def tells(self, function, arguments, wanted):
        """The call with these named arguments raises this error, by name and by position."""
        self.assertEqual(told(function, **arguments), wanted, (function, arguments))
        keywords = {name: arguments[name] for name in wants_keywords(function) if name in arguments}
        positions = [value for name, value in arguments.items() if name not in keywords]
        self.assertEqual(told(function, *positions, **keywords), wanted, (function, arguments))

    def refuses_in_order(self, function, right, faults):
        """Each fault is told, with none, one or all of the later ones that concern other parameters.

        The faults are (parameter, value, wanted), in the order in which they are checked. The right arguments are
        in the order of the signature, and raise no error.
        """
        self.tells(function, right, None)
        for place, (name, value, wanted) in enumerate(faults):
            later = [fault for fault in faults[place + 1:] if fault[0] != name]
            for others in [[], later, *[[fault] for fault in later]]:
                changed = {other: worth for other, worth, _ in reversed(others)}
                self.tells(function, {**right, **changed, name: value}, wanted)
