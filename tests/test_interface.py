"""Points 1 and 5 to 15: everything that the interface lists exists under its name, where it is listed."""

import inspect
import os
import unittest

from onwardlines import alike, errors, free, lines, net, plans, rounds, routes, session, texts, waits

ERRORS = ("InvalidLine", "InvalidRoute", "InvalidWishes", "InvalidFixed", "InvalidNumber", "InvalidIndex",
          "NotFitting", "NothingToUndo", "NotPossible", "InvalidText")
FUNCTIONS = {
    waits: {"fixed_wait": "route", "total_wait": "route time", "starts_within": "route most",
            "leg_waits": "route index", "slack": "route time index", "least_slack": "route index"},
    alike: {"differences": "one other", "worst_start": "one other", "count_starts": "one other",
            "first_earlier": "one other time"},
    free: {"with_departure": "route index at", "best_ride": "route index", "count_best": "route index",
           "is_best": "route index at", "nth_best": "route index number"},
    rounds: {"after_rounds": "line time number", "rounds_until": "line time goal", "overtaken": "one other time"},
    texts: {"write_route": "route", "read_route": "text", "write_wishes": "wishes", "read_wishes": "text"},
    session: {"session": "rows"},
}
CLASSES = {
    lines.Line: {"__init__": "every at ride", "__call__": "time", "departure": "time", "latest": "time",
                 "starts": "time", "__add__": "other", "__mul__": "other", "never_later": "other", "__eq__": "other",
                 "backward": "", "text": ""},
    lines.Walk: {"__init__": "ride", "text": ""},
    lines.Stop: {"__init__": "every at", "text": ""},
    routes.Route: {"__init__": "legs", "__len__": "", "__call__": "time", "__add__": "other", "line": "",
                   "departures": "time", "latest": "time", "backward": "", "part": "first last"},
    plans.Plan: {"__init__": "lines wishes fixed", "is_timetable": "thing", "conflict": "", "shows_conflict": "thing",
                 "count": "", "nth": "number", "number_of": "thing", "departure_of": "i", "between": "i j"},
    net.Net: {"__init__": "", "add": "every ride", "wish": "i j walk", "fix": "i at", "drop": "index", "plan": "",
              "lines": "", "wishes": "", "fixed": "", "undo": "", "mark": "", "undo_to": "index", "__len__": "",
              "twin": ""},
    errors.NotPossible: {"__init__": "ring"},
    errors.InvalidText: {"__init__": "word"},
}
FILES = {"__init__", "errors", "lines", "routes", "waits", "alike", "free", "plans", "rounds", "net", "texts",
         "session"}


class Interface(unittest.TestCase):
    def test_functions(self):
        for module, functions in FUNCTIONS.items():
            for name, arguments in functions.items():
                function = getattr(module, name)
                self.assertTrue(inspect.isfunction(function))
                self.assertEqual(function.__module__, module.__name__)
                self.assertEqual(" ".join(inspect.signature(function).parameters), arguments)

    def test_classes_and_methods(self):
        for made, methods in CLASSES.items():
            for name, arguments in methods.items():
                self.assertIn(name, vars(made), made)
                parameters = list(inspect.signature(vars(made)[name]).parameters)
                self.assertEqual(" ".join(parameters[1:]), arguments, (made, name))

    def test_where_the_classes_stand(self):
        for module, names in ((lines, ("Line", "Walk", "Stop")), (routes, ("Route",)), (plans, ("Plan",)),
                              (net, ("Net",)), (errors, ("HeadwayError",) + ERRORS)):
            for name in names:
                self.assertEqual(getattr(module, name).__module__, module.__name__)

    def test_errors(self):
        self.assertEqual(errors.HeadwayError.__bases__, (ValueError,))
        for name in ERRORS:
            self.assertEqual(getattr(errors, name).__bases__, (errors.HeadwayError,))
        self.assertEqual(errors.InvalidText(word=3).word, 3)
        self.assertEqual(errors.NotPossible(ring=[(0, True)]).ring, [(0, True)])

    def test_files(self):
        folder = os.path.dirname(errors.__file__)
        found = {name[:-3] for name in os.listdir(folder) if name.endswith(".py")}
        self.assertLessEqual(FILES, found)


if __name__ == "__main__":
    unittest.main()
