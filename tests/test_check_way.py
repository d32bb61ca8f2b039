"""Right and wrong answers to the question whether a state reaches another one: 6.6."""

import unittest

from carrynet.lattice import basis
from carrynet.reaching import check_way, is_invariant
from tests.draws import Draw, large_nets
from tests.helpers import A, all_states, leap, nested, not_integers, not_tuples, put, searched, told, total

BIG = 10 ** 40
WRONG_FORM = ("InvalidAnswer", "form")
WRONG_TICKS = ("InvalidAnswer", "ticks")
WRONG_INVARIANT = ("InvalidAnswer", "invariant")


class RightAnswers(unittest.TestCase):
    def test_all_vectors_that_lead_there(self):
        for entry in range(-40, 41):
            goal = leap(A, (3, 5), (entry, 0))[0]
            for other in range(-40, 41):
                wanted = None if (entry - other) % 8 == 0 else WRONG_TICKS
                self.assertEqual(told(check_way, A, (3, 5), goal, ("ticks", (other, 0))), wanted)
                if wanted is None:
                    self.assertEqual(check_way(A, (3, 5), goal, ("ticks", (other, 0))), "ticks")

    def test_greatest_vectors(self):
        self.assertEqual(check_way(A, (0, 0), (0, 0), ("ticks", (BIG, 0))), "ticks")
        self.assertEqual(check_way(A, (0, 0), (0, 0), ("ticks", (-BIG, 0))), "ticks")
        self.assertEqual(told(check_way, A, (0, 0), (0, 0), ("ticks", (BIG + 8, 0))), WRONG_TICKS)

    def test_in_large_nets(self):
        draw = Draw(1)
        for net in large_nets(1, 40):
            start, vector = draw.state(net), draw.vector(net, most=10 ** 39)
            goal = leap(net, start, vector)[0]
            self.assertEqual(check_way(net, start, goal, ("ticks", vector)), "ticks")
            for row, counter in zip(basis(net), net[2]):
                self.assertEqual(check_way(net, start, goal, ("ticks", total(vector, row))), "ticks")
                changed = put(vector, counter, vector[counter] + 1)
                self.assertEqual(told(check_way, net, start, goal, ("ticks", changed)), WRONG_TICKS)

    def test_invariants_between_all_states(self):
        pairs = [((0, a), q) for q in range(2, 13) for a in range(q)]
        for start in ((0, 0), (3, 5)):
            for goal in all_states(A):
                for (factors, modulus) in pairs:
                    differ = factors[1] * (goal[1] - start[1]) % modulus != 0
                    right = is_invariant(A, (factors, modulus)) and differ
                    wanted = None if right else WRONG_INVARIANT
                    self.assertEqual(told(check_way, A, start, goal, ("invariant", (factors, modulus))), wanted)
                    if right:
                        self.assertNotIn(goal, searched(A, start))
                        self.assertEqual(check_way(A, start, goal, ("invariant", (factors, modulus))), "invariant")

    def test_greatest_modulus(self):
        net = ((2,), (), ())
        self.assertEqual(check_way(net, (0,), (1,), ("invariant", ((BIG // 2,), BIG))), "invariant")
        self.assertEqual(told(check_way, net, (0,), (1,), ("invariant", ((BIG // 2 + 1,), BIG + 2))), WRONG_INVARIANT)


class WrongAnswers(unittest.TestCase):
    def is_refused(self, answer, wanted):
        self.assertEqual(told(check_way, A, (0, 0), (1, 3), answer), wanted, answer)
        self.assertEqual(told(check_way, A, (0, 0), (0, 1), answer), wanted, answer)

    def test_form(self):
        for value in [*not_tuples(), ["ticks", (5, 0)], (), ("ticks",), ("ticks", (5, 0), 0), nested(20), "ticks",
                      ("invariant",), ("invariant", ((0, 1), 3), None), ((0, 1), 3), (5, 0), ((5, 0), "ticks")]:
            self.is_refused(value, WRONG_FORM)

    def test_other_first_items(self):
        for word in [*not_tuples(), "", "Ticks", "ticks ", "tick", "invariants", "form", "ticksinvariant", b"ticks",
                     ("ticks",), ["ticks"], nested(19)]:
            for value in ((5, 0), ((0, 1), 3), None):
                self.is_refused((word, value), WRONG_FORM)

    def test_ticks(self):
        for value in [*not_tuples(), (), (5,), (5, 0, 0), [5, 0], (5, 1), (4, 3), (None, 0), (True, 0), (6, 0), (0, 0),
                      (BIG + 1, 0), (5, None), ((5, 0),), nested(19), ((0, 1), 3)]:
            self.is_refused(("ticks", value), WRONG_TICKS)
        for wrong in not_integers():
            self.is_refused(("ticks", (wrong, 0)), WRONG_TICKS)
            self.is_refused(("ticks", (5, wrong)), WRONG_TICKS)

    def test_ticks_to_another_state(self):
        for goal in all_states(A):
            wanted = None if goal == (1, 3) else WRONG_TICKS
            self.assertEqual(told(check_way, A, (0, 0), goal, ("ticks", (5, 0))), wanted)

    def test_ticks_at_other_counters(self):
        self.assertEqual(told(check_way, A, (0, 0), (0, 1), ("ticks", (0, 1))), WRONG_TICKS)

    def test_invariants(self):
        for value in [*not_tuples(), (), ((0, 1),), ((0, 1), 3, 0), [(0, 1), 3], ([0, 1], 3), ((0, 1), 4), ((1, 1), 3),
                      ((0, 0), 3), ((0, 1), 1), ((0, 0), BIG + 1), ((0, 4), 3), ((0, -2), 3), ((0, True), 3),
                      ((0, 1), None), ((0,), 3), ((0, 1, 0), 3), nested(19), (5, 0)]:
            self.is_refused(("invariant", value), WRONG_INVARIANT)

    def test_invariants_with_equal_values(self):
        right = ("invariant", ((0, 1), 3))
        self.assertEqual(check_way(A, (0, 0), (0, 1), right), "invariant")
        self.assertEqual(told(check_way, A, (0, 0), (1, 3), right), WRONG_INVARIANT)
        self.assertEqual(told(check_way, A, (0, 1), (0, 1), right), WRONG_INVARIANT)

    def test_the_order_of_errors(self):
        wrong_net = (*A[:2], (0, 0))
        self.assertEqual(told(check_way, wrong_net, None, None, None), ("InvalidNet", "inputs", 1))
        self.assertEqual(told(check_way, A, (4, 0), (0, 6), None), ("InvalidPhases", 0))
        self.assertEqual(told(check_way, A, (0, 0), (0, 6), None), ("InvalidPhases", 1))
        self.assertEqual(told(check_way, A, (0, 0), (0, 6), ("ticks", (5, 0))), ("InvalidPhases", 1))
        for value in not_tuples():
            self.assertEqual(told(check_way, value, value, value, value), ("InvalidNet", "form", None))
            self.assertEqual(told(check_way, A, value, (4, 0), value), ("InvalidPhases", None))
            self.assertEqual(told(check_way, A, (0, 0), value, value), ("InvalidPhases", None))

    def test_wrong_values_are_not_changed(self):
        answer = ("ticks", [5, {0: 1}])
        self.is_refused(answer, WRONG_TICKS)
        self.assertEqual(answer, ("ticks", [5, {0: 1}]))

    def test_by_name(self):
        self.assertEqual(check_way(answer=("ticks", (5, 0)), goal=(1, 3), start=(0, 0), net=A), "ticks")


if __name__ == "__main__":
    unittest.main()
