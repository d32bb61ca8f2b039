"""Restoring vectors, their basis, remainders, counts and orders: section 5."""

import itertools
import math
import unittest

from carrynet.lattice import are_alike, basis, class_count, order_of, reached_count, remainder, restores
from carrynet.nets import opened, state_count
from tests.draws import Draw, large_nets, small_nets, with_inputs
from tests.helpers import A, TEN, all_states, leap, not_integers, not_tuples, put, scaled, searched, told, total, unit

BIG = 10 ** 40
NET = ((4, 6, 5), ((0, 1, 3),), (0, 2))
PRIMES = [number for number in range(2, 1001) if all(number % other for other in range(2, number))]


def zero(net):
    return (0,) * len(net[0])


def listed_basis(net):
    """The basis of 5.3, found from the states that the vectors lead to."""
    found = []
    # The vectors within the pivots at the inputs so far, by the states to which they lead from 0.
    led = {zero(net): zero(net)}
    for counter in reversed(net[2]):
        pivot = 1
        while leap(net, zero(net), unit(net, counter, -pivot))[0] not in led:
            pivot += 1
        found.append(total(unit(net, counter, pivot), led[leap(net, zero(net), unit(net, counter, -pivot))[0]]))
        shorter = list(led.values())
        for entry, vector in itertools.product(range(1, pivot), shorter):
            vector = total(vector, unit(net, counter, entry))
            led[leap(net, zero(net), vector)[0]] = vector
    return tuple(found[::-1])


def drawn_cases(seed, many):
    """Small and large nets, each one with a tick vector."""
    draw = Draw(seed)
    for net in small_nets(seed, many) + large_nets(seed, many):
        yield draw, net, draw.vector(net)
        yield draw, net, draw.vector(net, most=12)


class Restores(unittest.TestCase):
    """5.1, 5.2."""

    def test_against_runs_in_several_states(self):
        answers = []
        for draw, net, vector in drawn_cases(1, 150):
            answer = restores(net, vector)
            answers.append(answer)
            for state in (zero(net), draw.state(net), tuple(modulus - 1 for modulus in net[0])):
                self.assertIs(leap(net, state, vector)[0] == state, answer, (net, vector))
        self.assertIn(True, answers)
        self.assertIn(False, answers)

    def test_in_each_state_of_small_nets(self):
        for net in small_nets(2, 40):
            for vector in itertools.product(*[range(-6, 13) if index in net[2] else (0,)
                                              for index in range(len(net[0]))]):
                wanted = leap(net, zero(net), vector)[0] == zero(net)
                self.assertIs(restores(net, vector), wanted)
                self.assertTrue(all((leap(net, state, vector)[0] == state) is wanted
                                    for state in all_states(net)[::7]))

    def test_multiples_of_the_order_and_one_tick_more(self):
        for draw, net, vector in drawn_cases(3, 60):
            vector = tuple(entry % 1000 for entry in vector)
            order = order_of(net, vector)
            for times in (1, 2, -1, -3, 10 ** 5):
                multiple = scaled(vector, order * times)
                self.assertIs(restores(net, multiple), True)
                for counter in net[2]:
                    # One tick changes the phase of its counter.
                    self.assertIs(restores(net, total(multiple, unit(net, counter))), False)
                    self.assertIs(restores(net, total(multiple, unit(net, counter, -1))), False)

    def test_multiples_in_small_nets(self):
        for net in small_nets(4, 60):
            for counter in net[2]:
                restoring = [times for times in range(1, 200) if restores(net, unit(net, counter, times))]
                order = order_of(net, unit(net, counter))
                self.assertEqual(restoring, list(range(order, 200, order)))

    def test_sums_of_basis_vectors(self):
        draw = Draw(5)
        for net in small_nets(5, 50) + large_nets(5, 20):
            vector = zero(net)
            for row in basis(net):
                vector = total(vector, scaled(row, draw.number(-10 ** 8, 10 ** 8)))
            self.assertIs(restores(net, vector), True)

    def test_zero_and_no_inputs(self):
        for net in (A, NET, TEN, opened(TEN)):
            self.assertIs(restores(net, zero(net)), True)

    def test_greatest_entries(self):
        self.assertIs(restores(((1000,), (), (0,)), (BIG,)), True)
        self.assertIs(restores(((1000,), (), (0,)), (-BIG,)), True)
        self.assertIs(restores(((999,), (), (0,)), (BIG,)), False)
        self.assertIs(restores(((999,), (), (0,)), (BIG - BIG % 999,)), True)


class Basis(unittest.TestCase):
    """5.3."""

    def has_its_form(self, net, rows):
        pivots = [row[counter] for row, counter in zip(rows, net[2])]
        self.assertEqual(len(rows), len(net[2]))
        for place, row in enumerate(rows):
            self.assertEqual(len(row), len(net[0]))
            self.assertGreater(pivots[place], 0)
            for counter, entry in enumerate(row):
                if counter not in net[2] or counter < net[2][place]:
                    self.assertEqual(entry, 0)
                elif counter > net[2][place]:
                    self.assertIn(entry, range(pivots[net[2].index(counter)]))

    def test_against_listed_states(self):
        for net in small_nets(11, 300) + small_nets(12, 40, counters=5, most=3):
            self.assertEqual(basis(net), listed_basis(net), net)

    def test_all_choices_of_inputs(self):
        moduli, wires, _ = ((4, 6, 2, 3), ((0, 1, 3), (0, 2, -1), (1, 2, 2), (1, 3, 1), (2, 3, -4)), ())
        for size in range(5):
            for inputs in itertools.combinations(range(4), size):
                net = (moduli, wires, inputs)
                self.assertEqual(basis(net), listed_basis(net), net)

    def test_form_in_large_nets(self):
        draw = Draw(13)
        for net in large_nets(13, 120):
            rows = basis(net)
            self.has_its_form(net, rows)
            state = draw.state(net)
            for row in rows:
                self.assertEqual(leap(net, state, row)[0], state)

    def test_all_counters_as_inputs(self):
        for net in large_nets(14, 60) + small_nets(14, 60):
            net = opened(net)
            rows = basis(net)
            self.has_its_form(net, rows)
            self.assertEqual(math.prod(row[place] for place, row in enumerate(rows)), math.prod(net[0]))

    def test_one_input(self):
        for net in large_nets(15, 12) + small_nets(15, 40):
            for counter in range(len(net[0])):
                net = with_inputs(net, (counter,))
                order = order_of(net, unit(net, counter))
                self.assertEqual(basis(net), (unit(net, counter, order),))

    def test_no_inputs(self):
        for net in (TEN, ((2,), (), ()), ((4, 6), ((0, 1, 3),), ())):
            self.assertEqual(basis(net), ())

    def test_known_nets(self):
        self.assertEqual(basis(((1000,) * 10, (), tuple(range(10)))), tuple(unit(TEN, k, 1000) for k in range(10)))
        self.assertEqual(basis(((10, 10, 10), ((0, 1, 1), (1, 2, 1)), (0,))), ((1000, 0, 0),))
        self.assertEqual(basis(((10, 10, 10), ((0, 1, 1), (1, 2, 1)), (0, 1, 2))), ((10, 9, 9), (0, 10, 9), (0, 0, 10)))
        self.assertEqual(basis(((10, 10, 10), ((0, 1, 1), (1, 2, 1)), (0, 2))), ((100, 0, 9), (0, 0, 10)))
        self.assertEqual(basis(((2, 3), ((0, 1, -1),), (0, 1))), ((2, 1), (0, 3)))

    def test_restoring_vectors_are_sums_of_the_basis(self):
        for draw, net, vector in drawn_cases(16, 40):
            rest = scaled(vector, order_of(net, vector))
            for row, counter in zip(basis(net), net[2]):
                self.assertEqual(rest[counter] % row[counter], 0)
                rest = total(rest, scaled(row, -(rest[counter] // row[counter])))
            self.assertEqual(rest, zero(net))


class Remainders(unittest.TestCase):
    """5.4."""

    def test_bounds_and_state(self):
        for draw, net, vector in drawn_cases(21, 150):
            rest = remainder(net, vector)
            for row, counter in zip(basis(net), net[2]):
                self.assertIn(rest[counter], range(row[counter]))
            self.assertTrue(all(entry == 0 for index, entry in enumerate(rest) if index not in net[2]))
            state = draw.state(net)
            self.assertEqual(leap(net, state, rest)[0], leap(net, state, vector)[0])
            self.assertEqual(remainder(net, rest), rest)
            self.assertIs(are_alike(net, vector, rest), True)

    def test_all_vectors_within_the_pivots(self):
        for net in small_nets(22, 80):
            pivots = {counter: row[counter] for row, counter in zip(basis(net), net[2])}
            within = list(itertools.product(*[range(pivots.get(index, 1)) for index in range(len(net[0]))]))
            for vector in within:
                self.assertEqual(remainder(net, vector), vector)
            self.assertEqual(len({leap(net, zero(net), vector)[0] for vector in within}), len(within))

    def test_zero(self):
        for net in (A, NET, TEN, opened(TEN)):
            self.assertEqual(remainder(net, zero(net)), zero(net))

    def test_basis_vectors_and_sums(self):
        for net in small_nets(23, 60) + large_nets(23, 20):
            for row in basis(net):
                self.assertEqual(remainder(net, row), zero(net))
                self.assertEqual(remainder(net, scaled(row, -7)), zero(net))

    def test_greatest_entries(self):
        self.assertEqual(remainder(A, (BIG, 0)), (BIG % 8, 0))
        self.assertEqual(remainder(A, (-BIG + 3, 0)), (3, 0))
        self.assertEqual(remainder(((7,), (), (0,)), (-BIG,)), (-BIG % 7,))


class Alike(unittest.TestCase):
    """5.4."""

    def test_against_states_and_remainders(self):
        for net in small_nets(31, 25):
            vectors = list(itertools.product(*[range(-3, 4) if index in net[2] else (0,)
                                               for index in range(len(net[0]))]))[::3]
            for vector, other in itertools.combinations(vectors, 2):
                alike = leap(net, zero(net), vector)[0] == leap(net, zero(net), other)[0]
                self.assertIs(are_alike(net, vector, other), alike)
                self.assertIs(remainder(net, vector) == remainder(net, other), alike)

    def test_in_large_nets(self):
        for draw, net, vector in drawn_cases(32, 60):
            self.assertIs(are_alike(net, vector, vector), True)
            for row, counter in zip(basis(net), net[2]):
                little = tuple(entry // 10 for entry in vector)
                self.assertIs(are_alike(net, little, total(little, scaled(row, 3))), True)
                self.assertIs(are_alike(net, total(little, scaled(row, -3)), little), True)
                self.assertIs(are_alike(net, little, total(little, unit(net, counter))), False)

    def test_great_differences(self):
        self.assertIs(are_alike(((1000,), (), (0,)), (BIG,), (-BIG,)), True)
        self.assertIs(are_alike(((999,), (), (0,)), (BIG,), (-BIG,)), False)


class Counts(unittest.TestCase):
    """5.5."""

    def test_against_listed_classes(self):
        for net in small_nets(41, 80, most=4):
            classes = {frozenset(searched(net, state)) for state in all_states(net)}
            self.assertEqual({len(members) for members in classes}, {reached_count(net)})
            self.assertEqual(class_count(net), len(classes))

    def test_products(self):
        for net in large_nets(42, 60):
            product = math.prod(row[counter] for row, counter in zip(basis(net), net[2]))
            self.assertEqual(reached_count(net), product)
            self.assertEqual(class_count(net) * product, math.prod(net[0]))

    def test_all_inputs_and_none(self):
        for net in large_nets(43, 20) + small_nets(43, 20) + [A, TEN]:
            self.assertEqual((reached_count(opened(net)), class_count(opened(net))), (state_count(net), 1))
            self.assertEqual(reached_count(with_inputs(net, ())), 1)
            self.assertEqual(class_count(with_inputs(net, ())), state_count(net))


class Orders(unittest.TestCase):
    """5.6."""

    def is_order(self, net, vector, order):
        self.assertEqual(leap(net, zero(net), scaled(vector, order))[0], zero(net))
        for prime in PRIMES:
            if order % prime == 0:
                self.assertNotEqual(leap(net, zero(net), scaled(vector, order // prime))[0], zero(net))

    def test_against_prime_factors(self):
        for draw, net, vector in drawn_cases(51, 150):
            order = order_of(net, vector)
            self.assertGreaterEqual(order, 1)
            # The order is a divisor of the number of states.
            self.assertEqual(state_count(net) % order, 0)
            self.is_order(net, vector, order)

    def test_against_repetitions(self):
        for net in small_nets(52, 60):
            for vector in (Draw(53).vector(net, most=5), Draw(54).vector(net)):
                state = leap(net, zero(net), vector)[0]
                count = 1
                while state != zero(net):
                    state = leap(net, state, vector)[0]
                    count += 1
                self.assertEqual(order_of(net, vector), count)

    def test_zero_and_opposite(self):
        for draw, net, vector in drawn_cases(55, 20):
            self.assertEqual(order_of(net, zero(net)), 1)
            self.assertEqual(order_of(net, scaled(vector, -1)), order_of(net, vector))
        self.assertEqual(order_of(TEN, zero(TEN)), 1)

    def test_long_orders(self):
        net = ((1000,) * 10, tuple((k, k + 1, 1) for k in range(9)), (0,))
        self.assertEqual(order_of(net, unit(net, 0)), 10 ** 30)
        self.assertEqual(order_of(net, unit(net, 0, 10 ** 29)), 10)
        self.assertEqual(order_of(net, unit(net, 0, BIG)), 1)
        self.assertEqual(order_of(net, unit(net, 0, BIG - 1)), 10 ** 30)


class Refusals(unittest.TestCase):
    ON_NETS = (basis, reached_count, class_count)
    ON_VECTORS = (restores, remainder, order_of)

    def test_wrong_nets(self):
        for value in not_tuples():
            for function in self.ON_NETS:
                self.assertEqual(told(function, value), ("InvalidNet", "form", None))
            for function in self.ON_VECTORS:
                self.assertEqual(told(function, value, value), ("InvalidNet", "form", None))
            self.assertEqual(told(are_alike, value, value, value), ("InvalidNet", "form", None))
        for function in self.ON_NETS:
            self.assertEqual(told(function, (*A[:2], (0, 0))), ("InvalidNet", "inputs", 1))
            self.assertEqual(told(function, ((4, 1), (), ())), ("InvalidNet", "moduli", 1))
            self.assertEqual(told(function, ((4, 6), ((1, 0, 3),), ())), ("InvalidNet", "wires", 0))

    def test_wrong_vectors(self):
        for value in not_tuples() + [(), (0, 0), (0, 0, 0, 0)]:
            for function in self.ON_VECTORS:
                self.assertEqual(told(function, NET, value), ("InvalidTicks", None))
        for index in range(3):
            for wrong in [*not_integers(), BIG + 1, -BIG - 1, 10 ** 999]:
                for function in self.ON_VECTORS:
                    self.assertEqual(told(function, NET, put((1, 0, 1), index, wrong)), ("InvalidTicks", index))
        for function in self.ON_VECTORS:
            self.assertEqual(told(function, NET, (0, 1, 0)), ("InvalidTicks", 1))
            self.assertEqual(told(function, A, [8, 0]), ("InvalidTicks", None))
            self.assertIsNone(told(function, NET, (BIG, 0, -BIG)))

    def test_the_first_wrong_vector(self):
        right = (1, 0, 1)
        self.assertEqual(told(are_alike, NET, (0, 1, 0), None), ("InvalidTicks", 1))
        self.assertEqual(told(are_alike, NET, None, (0, 1, 0)), ("InvalidTicks", None))
        self.assertEqual(told(are_alike, NET, right, (0, 1, 0)), ("InvalidTicks", 1))
        self.assertEqual(told(are_alike, NET, (BIG + 1, 0, 0), right), ("InvalidTicks", 0))
        for value in not_tuples():
            self.assertEqual(told(are_alike, NET, right, value), ("InvalidTicks", None))
            self.assertEqual(told(are_alike, NET, value, right), ("InvalidTicks", None))

    def test_by_position_and_by_name(self):
        self.assertIs(restores(vector=(8, 0), net=A), True)
        self.assertEqual(remainder(vector=(19, 0), net=A), (3, 0))
        self.assertEqual(order_of(vector=(6, 0), net=A), 4)
        self.assertIs(are_alike(other=(8, 0), vector=(0, 0), net=A), True)
        self.assertEqual((basis(net=A), reached_count(net=A), class_count(net=A)), (((8, 0),), 8, 3))


if __name__ == "__main__":
    unittest.main()
