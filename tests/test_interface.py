import importlib
import inspect
import unittest

from leftstanding.deedtexts import deeds_text
from leftstanding.desks import Desk
from leftstanding.endings import begun
from leftstanding.reaches import reach
from leftstanding.standings import begin
from leftstanding.texts import agreement_text
from leftstanding.twins import table, twins
from drawn import drawn_run
from samples import (
    AGREED, CLASSES, COIN, HASTY, INTERFACE, LATE, PAIR, PROPERTIES, SPREAD, UNLIKE, any_values, outcome, same,
)


def functions():
    for module, names in INTERFACE.items():
        for name, arguments in names.items():
            yield module, name, arguments.split()


class Interface(unittest.TestCase):

    def test_names_and_arguments(self):
        for module, name, arguments in functions():
            found = getattr(importlib.import_module(f"leftstanding.{module}"), name)
            self.assertTrue(inspect.isfunction(found), name)
            self.assertEqual((found.__module__, found.__name__), (f"leftstanding.{module}", name))
            parameters = inspect.signature(found).parameters.values()
            self.assertEqual([parameter.name for parameter in parameters], arguments)
            for parameter in parameters:
                self.assertEqual(parameter.kind, parameter.POSITIONAL_OR_KEYWORD)
                self.assertIs(parameter.default, parameter.empty)

    def test_classes(self):
        for module, classes in CLASSES.items():
            for name, methods in classes.items():
                found = getattr(importlib.import_module(f"leftstanding.{module}"), name)
                self.assertTrue(inspect.isclass(found), name)
                self.assertEqual((found.__module__, found.__name__), (f"leftstanding.{module}", name))
                for method, arguments in methods.items():
                    self.assertTrue(inspect.isfunction(vars(found)[method]), method)
                    self.assertEqual(list(inspect.signature(vars(found)[method]).parameters), arguments.split())
        for name in PROPERTIES:
            self.assertIsInstance(vars(Desk)[name], property)


def calls_of(agreement):
    """Arguments of all functions for this agreement, by their names."""
    standings = reach(agreement, 1)
    texts = [agreement_text(agreement), deeds_text(drawn_run(agreement, 3)), "none", "row 0 0"]
    values = any_values()[:12] + texts + [agreement, begin(agreement), standings[-1], ("fall", 0), ("bind", 1), ()]
    if twins(agreement, 1) is None:
        values.append(table(agreement, 1, False))
    else:
        values.append(twins(agreement, 1))
    choices = {
        "agreement": [agreement],
        "house": [0, 1],
        "state": [0, 1],
        "k": [0],
        "late": [True, False],
        "most": [0, 1],
        "bold": [True, False],
        "standing": standings[:3] + standings[-2:],
        "deeds": [(), drawn_run(agreement, 3), (("row", 0, 0), ("row", 1, 0))],
        "ending": [begun(agreement, standing) for standing in (standings[0], reach(agreement, 0)[-1])],
        "value": values,
        "deed": [("fall", 0), ("row", 0, 0), ("send", 1), ("bind", 0), ("end", 1)],
        "fallen": [(), (0,), (1,)],
        "word": ["ready", "do", "Ready", None],
        "end": ["done", "off"],
        "n": [2, 3],
        "log": [(("row", 0, 0), ("late", 1, 0)), (("fall", 0), ("fall", 0)), None],
    }
    for module, name, arguments in functions():
        found = getattr(importlib.import_module(f"leftstanding.{module}"), name)
        rows = [{}]
        for argument in arguments:
            rows = [dict(row, **{argument: value}) for row in rows for value in choices[argument]]
        for row in rows:
            yield found, row


class Calls(unittest.TestCase):

    def test_other_calls_between(self):
        agreements = (COIN, AGREED, PAIR, LATE, HASTY, SPREAD, UNLIKE)
        calls = [call for agreement in agreements for call in calls_of(agreement)]
        first = [outcome(call, (), names) for call, names in calls]
        again = [outcome(call, tuple(names.values()), {}) for call, names in reversed(calls)]
        for (call, names), one, other in zip(calls, first, reversed(again), strict=True):
            self.assertTrue(same(one, other), (call.__name__, names))
        self.assertEqual({one[0] for one in first}, {"returns", "raises"})


if __name__ == "__main__":
    unittest.main()
