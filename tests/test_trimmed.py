"""Relevant counters and trimmed nets: 11.4."""

import unittest

from carrynet.drives import relevant, trimmed
from carrynet.nets import is_net
from carrynet.rates import gains
from tests.draws import Draw, large_nets, small_nets
from tests.helpers import A, TEN, leap, not_integers, not_tuples
from tests.refusals import InOrder
from tests.test_rates import has_path

NET = ((4, 6, 5, 7), ((0, 1, 3), (0, 2, 1), (2, 3, -2)), (0, 2))


def cases(seed):
    for net in small_nets(seed, 80, counters=6) + large_nets(seed, 30) + [A, TEN, NET]:
        for output in range(len(net[0])):
            yield net, output


def kept_of(values, counters):
    return tuple(values[counter] for counter in counters)


class Relevant(unittest.TestCase):
    def test_against_a_search_of_paths(self):
        sizes = {}
        for net, output in cases(1):
            wanted = tuple(counter for counter in range(len(net[0])) if has_path(net, counter, output))
            self.assertEqual(relevant(net, output), wanted)
            sizes[len(wanted)] = True
        self.assertEqual(sorted(sizes), list(range(1, 11)))

    def test_single_cases(self):
        self.assertEqual([relevant(NET, output) for output in range(4)], [(0,), (0, 1), (0, 2), (0, 2, 3)])
        self.assertEqual(relevant(TEN, 9), (9,))
        chain = ((2,) * 10, tuple((k, k + 1, 1) for k in range(9)), ())
        for output in range(10):
            self.assertEqual(relevant(chain, output), tuple(range(output + 1)))

    def test_paths_that_cancel_each_other(self):
        net = ((3, 2, 5), ((0, 1, 2), (0, 2, -1), (1, 2, 1)), (0,))
        self.assertEqual(relevant(net, 2), (0, 1, 2))


class Trimmed(unittest.TestCase):
    def test_a_net_with_these_counters(self):
        for net, output in cases(11):
            shorter, kept = trimmed(net, output)
            self.assertEqual(kept, relevant(net, output))
            self.assertIs(is_net(shorter), True)
            self.assertEqual(shorter[0], kept_of(net[0], kept))
            self.assertEqual(kept_of(kept, shorter[2]), tuple(counter for counter in net[2] if counter in kept))
            wires = tuple((kept[u], kept[v], w) for u, v, w in shorter[1])
            self.assertEqual(wires, tuple(wire for wire in net[1] if wire[0] in kept and wire[1] in kept))

    def test_the_output_carries_the_same(self):
        # Whatever ticks are made, also at counters that are no inputs.
        draw = Draw(12)
        for net, output in cases(12):
            shorter, kept = trimmed(net, output)
            state = draw.state(net)
            for most in (3, 10 ** 40):
                vector = tuple(draw.number(-most, most) for _ in net[0])
                carried = leap(net, state, vector)[1]
                shorter_carried = leap(shorter, kept_of(state, kept), kept_of(vector, kept))[1]
                self.assertEqual(shorter_carried, kept_of(carried, kept))
                self.assertEqual(shorter_carried[kept.index(output)], carried[output])

    def test_gains_stay(self):
        for net, output in cases(13):
            shorter, kept = trimmed(net, output)
            self.assertEqual(gains(shorter, kept.index(output)), kept_of(gains(net, output), kept))
            others = [gain for counter, gain in enumerate(gains(net, output)) if counter not in kept]
            self.assertEqual(set(others) | {(0, 1)}, {(0, 1)})

    def test_once_more(self):
        for net, output in cases(14):
            shorter, kept = trimmed(net, output)
            self.assertEqual(trimmed(shorter, kept.index(output)), (shorter, tuple(range(len(kept)))))

    def test_single_cases(self):
        self.assertEqual(trimmed(NET, 3), (((4, 5, 7), ((0, 1, 1), (1, 2, -2)), (0, 1)), (0, 2, 3)))
        self.assertEqual(trimmed(NET, 0), (((4,), (), (0,)), (0,)))
        self.assertEqual(trimmed(TEN, 9), (((2,), (), ()), (9,)))


class Refusals(InOrder):
    def test_in_order(self):
        nets = [("net", None, ("InvalidNet", "form", None)), ("net", (*NET[:2], (4,)), ("InvalidNet", "inputs", 0))]
        outputs = [("output", wrong, ("InvalidCounter", wrong)) for wrong in (4, -1, True, None, "0", (0,))]
        for function in (relevant, trimmed):
            self.refuses_in_order(function, {"net": NET, "output": 3}, [*nets, *outputs])

    def test_wrong_kinds(self):
        for function in (relevant, trimmed):
            for value in not_tuples():
                self.tells(function, {"net": value, "output": value}, ("InvalidNet", "form", None))
            for wrong in [*not_integers(), -1, 4, 10 ** 999]:
                self.tells(function, {"net": NET, "output": wrong}, ("InvalidCounter", wrong))


if __name__ == "__main__":
    unittest.main()
