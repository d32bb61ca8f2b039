"""The general rules: 2.1, 2.2, 2.5, 2.6, 2.8, and where the interface is defined."""

import ast
import inspect
import itertools
import pathlib
import unittest

import carrynet
from carrynet import drives, errors, events, forecasts, lattice, machines, meters, nets, rates, reaching, session
from carrynet import texts, ticks, ways
from tests.helpers import A, not_integers

SIGNATURES = {
    nets: {
        "validate_net": "(net)",
        "is_net": "(value)",
        "make_net": "(*moduli, wires=(), inputs=None)",
        "chain": "(*moduli, weight=1)",
        "opened": "(net)",
        "joined": "(*nets)",
        "state_count": "(net)",
        "validate_phases": "(net, phases)",
        "is_state": "(net, value)",
    },
    ticks: {
        "arrivals": "(net, phases, ticks)",
        "carries": "(net, phases, ticks)",
        "after": "(net, phases, ticks)",
        "vector_of": "(net, *counters, times=1)",
        "total_of": "(net, *vectors)",
        "vector_of_walk": "(net, walk)",
    },
    lattice: {
        "restores": "(net, vector)",
        "basis": "(net)",
        "remainder": "(net, vector)",
        "are_alike": "(net, vector, other)",
        "reached_count": "(net)",
        "class_count": "(net)",
        "order_of": "(net, vector)",
    },
    events: {
        "events": "(net, phases, walk)",
        "states_along": "(net, phases, walk)",
        "reached": "(net, phases)",
    },
    reaching: {
        "difference": "(net, start, goal)",
        "is_invariant": "(net, value)",
        "value_of": "(net, phases, invariant)",
        "invariants": "(net)",
        "way": "(net, start, goal)",
        "check_way": "(net, start, goal, answer)",
    },
    rates: {
        "gains": "(net, output)",
        "spread": "(net, output)",
        "rate_of": "(net, vector, output)",
        "offset_of": "(net, phases, output)",
        "carry_range": "(net, vector, output)",
    },
    forecasts: {
        "forecast": "(net, phases, counter, output, *, count=1)",
        "carry_ticks": "(net, phases, counter, output, *, last)",
        "first_to_carry": "(net, phases, counter, *outputs)",
        "arrival": "(net, start, goal, counter)",
    },
    ways: {
        "cheapest_way": "(net, start, goal, *prices)",
        "shells": "(net, phases)",
        "radius": "(net)",
    },
    drives: {
        "validate_drive": "(value)",
        "is_drive": "(value)",
        "record": "(drive)",
        "record_start": "(drive, count)",
        "joint_period": "(*drives)",
        "first_difference": "(one, other)",
        "alike_groups": "(*drives)",
        "relevant": "(net, output)",
        "trimmed": "(net, output)",
    },
    texts: {
        "numbers_text": "(*numbers)",
        "fraction_text": "(fraction)",
        "net_text": "(net)",
        "parse_numbers": "(text)",
        "parse_fraction": "(text)",
        "parse_net": "(text)",
    },
}
CONSTANTS = {
    nets: {"MOST_COUNTERS": 10, "MOST_MODULUS": 1000, "MOST_WEIGHT": 100, "MOST_TICKS": 10 ** 40},
    events: {"MOST_REACHED": 2000},
    forecasts: {"MOST_CARRIES": 1000000},
    drives: {"MOST_TURNS": 20000},
}
CLASSES = {
    machines: {
        "Machine": ("MOST_TIMES", "__init__", "begin_at", "carried", "common_divisor", "made", "net", "phases", "play",
                    "rehearse", "tick"),
        "Recorder": ("__init__", "history", "tick", "undo"),
        "Odometer": ("__init__", "advance", "begin_reading", "reading"),
    },
    meters: {
        "Meter": ("__init__", "expected", "made", "marks", "measure", "output", "play", "rehearse", "tick", "total"),
        "LoggedMeter": ("__init__",),
    },
    session: {
        "Session": ("__init__", "attempt", "execute", "execute_all", "from_text", "is_command", "meter"),
    },
}
DRIVE = (A, (0, 0), (2, 0), 1)
# What each function is called with in the tests below; all of them succeed.
CALLS = (
    (nets.validate_net, (A,), {}),
    (nets.is_net, (A,), {}),
    (nets.make_net, (4, 6), {"wires": ((0, 1, 3),), "inputs": (0,)}),
    (nets.chain, (4, 6), {"weight": 3}),
    (nets.opened, (A,), {}),
    (nets.joined, (A, A), {}),
    (nets.state_count, (A,), {}),
    (nets.validate_phases, (A, (3, 5)), {}),
    (nets.is_state, (A, (3, 6)), {}),
    (ticks.arrivals, (A, (3, 5), (7, 0)), {}),
    (ticks.carries, (A, (3, 5), (7, 0)), {}),
    (ticks.after, (A, (3, 5), (7, 0)), {}),
    (ticks.vector_of, (A, 0, 0), {"times": -2}),
    (ticks.total_of, (A, (1, 0), (2, 0)), {}),
    (ticks.vector_of_walk, (A, ((0, 1), (0, -1))), {}),
    (lattice.restores, (A, (8, 0)), {}),
    (lattice.basis, (nets.opened(A),), {}),
    (lattice.remainder, (A, (-1, 0)), {}),
    (lattice.are_alike, (A, (-1, 0), (7, 0)), {}),
    (lattice.reached_count, (A,), {}),
    (lattice.class_count, (A,), {}),
    (lattice.order_of, (A, (6, 0)), {}),
    (events.events, (A, (3, 5), ((0, 1), (0, -1))), {}),
    (events.states_along, (A, (3, 5), ((0, 1), (0, -1))), {}),
    (events.reached, (A, (3, 5)), {}),
    (reaching.difference, (A, (3, 5), (1, 0)), {}),
    (reaching.is_invariant, (A, ((0, 1), 3)), {}),
    (reaching.value_of, (A, (2, 5), ((0, 1), 3)), {}),
    (reaching.invariants, (A,), {}),
    (reaching.way, (A, (0, 0), (1, 3)), {}),
    (reaching.check_way, (A, (0, 0), (0, 1), ("invariant", ((0, 1), 3))), {}),
    (rates.gains, (A, 1), {}),
    (rates.spread, (A, 1), {}),
    (rates.rate_of, (A, (10, 0), 1), {}),
    (rates.offset_of, (A, (3, 5), 1), {}),
    (rates.carry_range, (A, (10, 0), 1), {}),
    (forecasts.forecast, (A, (3, 4), 0, 1), {"count": 1000}),
    (forecasts.carry_ticks, (A, (3, 4), 0, 1), {"last": 1000}),
    (forecasts.first_to_carry, (A, (3, 5), 0, 1, 0, 1), {}),
    (forecasts.arrival, (A, (3, 5), (1, 2), 0), {}),
    (ways.cheapest_way, (A, (3, 5), (1, 2), 1000), {}),
    (ways.shells, (A, (3, 5)), {}),
    (ways.radius, (A,), {}),
    (drives.validate_drive, (DRIVE,), {}),
    (drives.is_drive, (DRIVE,), {}),
    (drives.record, (DRIVE,), {}),
    (drives.record_start, (DRIVE, 10), {}),
    (drives.joint_period, (DRIVE, (A, (3, 5), (3, 0), 0)), {}),
    (drives.first_difference, (DRIVE, (A, (3, 5), (3, 0), 0)), {}),
    (drives.alike_groups, (DRIVE, (A, (3, 5), (3, 0), 0), DRIVE), {}),
    (drives.relevant, (A, 1), {}),
    (drives.trimmed, (A, 0), {}),
    (texts.numbers_text, (3, -5), {}),
    (texts.fraction_text, ((1, 8),), {}),
    (texts.net_text, (A,), {}),
    (texts.parse_numbers, ("3 -5",), {}),
    (texts.parse_fraction, ("1/8",), {}),
    (texts.parse_net, ("4 6 0>1:3 @0",), {}),
)
PACKAGE = pathlib.Path(carrynet.__file__).parent
# Modules of the library that neither tell the time nor read or draw anything.
HARMLESS = ("carrynet", "math", "itertools", "heapq", "collections")


def kinds(value):
    """The kinds of a value and of all that it holds."""
    if isinstance(value, tuple):
        return (type(value), *[kinds(item) for item in value])
    return type(value)


def as_written(value):
    """The same value of tuples, integers, strings, True, False and None only, built anew."""
    if type(value) is tuple:
        return tuple(as_written(item) for item in value)
    return value if value is None or type(value) in (bool, str) else int(str(value))


def result_of(function, arguments, named):
    """What the call returns, or all that it yields; a record has no end."""
    result = function(*arguments, **named)
    return tuple(itertools.islice(result, 1000)) if inspect.isgenerator(result) else result


class Interface(unittest.TestCase):
    def test_signatures(self):
        for module, functions in SIGNATURES.items():
            for name, signature in functions.items():
                self.assertEqual(str(inspect.signature(getattr(module, name))), signature, name)

    def test_each_function_is_defined_in_its_file(self):
        for module, functions in SIGNATURES.items():
            for name in functions:
                self.assertEqual(getattr(module, name).__module__, module.__name__, name)

    def test_constants(self):
        for module, constants in CONSTANTS.items():
            for name, value in constants.items():
                self.assertEqual((getattr(module, name), type(getattr(module, name))), (value, int), name)

    def test_each_class_and_its_methods_are_defined_in_their_places(self):
        for module, classes in CLASSES.items():
            for name, members in classes.items():
                kind = getattr(module, name)
                self.assertEqual((kind.__name__, kind.__module__), (name, module.__name__))
                for member in members:
                    self.assertIn(member, vars(kind), name)

    def test_all_parameters_by_name(self):
        for function, arguments, named in CALLS:
            parameters = inspect.signature(function).parameters.values()
            if all(parameter.kind is not parameter.VAR_POSITIONAL for parameter in parameters):
                by_name = {**dict(zip([parameter.name for parameter in parameters], arguments)), **named}
                self.assertEqual(result_of(function, (), by_name), result_of(function, arguments, named), function)

    def test_each_function_is_called_below(self):
        called = [function.__name__ for function, _, _ in CALLS]
        self.assertEqual(called, [name for functions in SIGNATURES.values() for name in functions])


class Calls(unittest.TestCase):
    def test_equal_calls_have_equal_results(self):
        for function, arguments, named in CALLS:
            first = result_of(function, arguments, named)
            second = result_of(function, as_written(arguments), {name: as_written(named[name]) for name in named})
            self.assertEqual(first, second, function)
            self.assertEqual(kinds(first), kinds(second), function)

    def test_results_hold_tuples_integers_and_strings_only(self):
        for function, arguments, named in CALLS:
            result = result_of(function, arguments, named)
            self.assertEqual(repr(result), repr(as_written(result)), function)

    def test_arguments_are_not_changed(self):
        for function, arguments, named in CALLS:
            before = repr((arguments, named))
            result_of(function, arguments, named)
            self.assertEqual(repr((arguments, named)), before, function)

    def test_the_fields_of_raised_errors_are_the_very_arguments(self):
        for value in not_integers():
            with self.assertRaises(errors.InvalidCounter) as caught:
                ticks.vector_of(A, 0, value)
            self.assertIs(caught.exception.counter, value)
            with self.assertRaises(errors.InvalidTimes) as caught:
                ticks.vector_of(A, 0, times=value)
            self.assertIs(caught.exception.times, value)


class Kinds(unittest.TestCase):
    def test_true_and_false_are_no_integers(self):
        self.assertIs(nets.is_net(((2, 2), ((0, 1, True),), ())), False)
        self.assertIs(nets.is_net(((2, 2), (), (False,))), False)
        self.assertIs(nets.is_state(A, (True, 0)), False)
        for function in (ticks.arrivals, ticks.carries, ticks.after):
            with self.assertRaises(errors.InvalidTicks):
                function(A, (0, 0), (True, 0))
            with self.assertRaises(errors.InvalidTicks):
                function(A, (0, 0), (0, False))

    def test_a_list_is_not_a_tuple(self):
        self.assertIs(nets.is_net(list(A)), False)
        self.assertIs(nets.is_net((list(A[0]), *A[1:])), False)
        self.assertIs(nets.is_state(A, [0, 0]), False)

    def test_quotients_and_remainders_of_negative_numbers(self):
        single = ((4,), (), (0,))
        wanted = {-1: (-1, 3), -3: (-1, 1), -4: (-1, 0), -5: (-2, 3), -8: (-2, 0), 3: (0, 3), 4: (1, 0)}
        for entry, (quotient, rest) in wanted.items():
            self.assertEqual(ticks.carries(single, (0,), (entry,)), (quotient,))
            self.assertEqual(ticks.after(single, (0,), (entry,)), (rest,))


class Sources(unittest.TestCase):
    """2.6: no clocks, random numbers, files or floating-point numbers."""

    def trees(self):
        files = sorted(PACKAGE.glob("**/*.py"))
        self.assertIn(PACKAGE / "ticks.py", files)
        for file in files:
            yield file.name, ast.parse(file.read_text(encoding="ascii"))

    def test_imports(self):
        for name, tree in self.trees():
            for node in ast.walk(tree):
                self.assertNotIsInstance(node, ast.Import, name)
                if isinstance(node, ast.ImportFrom):
                    self.assertIn(node.module.split(".")[0], HARMLESS, name)

    def test_no_floating_point_numbers(self):
        for name, tree in self.trees():
            for node in ast.walk(tree):
                self.assertNotIsInstance(node, ast.Div, name)
                self.assertFalse(isinstance(node, ast.Constant) and isinstance(node.value, (float, complex)), name)
                self.assertFalse(isinstance(node, ast.Name) and node.id in ("float", "complex", "round"), name)

    def test_no_files(self):
        barred = ("open", "input", "print", "exec", "eval", "compile", "breakpoint", "id", "hash")
        for name, tree in self.trees():
            for node in ast.walk(tree):
                self.assertFalse(isinstance(node, ast.Name) and node.id in barred, name)

    def test_sizes(self):
        for file in sorted(PACKAGE.glob("**/*.py")):
            lines = file.read_text(encoding="ascii").split("\n")
            self.assertLessEqual(len(lines), 400, file)
            self.assertLessEqual(max(len(line) for line in lines), 120, file)
            for node in ast.walk(ast.parse("\n".join(lines))):
                if isinstance(node, ast.FunctionDef):
                    self.assertLessEqual(node.end_lineno - node.lineno, 39, (file, node.name))


if __name__ == "__main__":
    unittest.main()
