"""The examples of the document, word for word."""

import unittest

from carrynet import errors

EXAMPLES = r"""
>>> from carrynet.nets import validate_net
>>> validate_net(((4, 6), ((1, 0, 3),), (0,)))
raises InvalidNet('wires', 0)

>>> from carrynet.nets import make_net
>>> make_net(4, 6, wires=((0, 1, 3),), inputs=(0,))
((4, 6), ((0, 1, 3),), (0,))

>>> from carrynet.nets import make_net
>>> make_net(2, 2, 5)
((2, 2, 5), (), (0, 1, 2))

>>> from carrynet.nets import chain
>>> chain(10, 10, 10)
((10, 10, 10), ((0, 1, 1), (1, 2, 1)), (0,))

>>> from carrynet.nets import joined
>>> joined(((4, 6), ((0, 1, 3),), (0,)), ((5,), (), (0,)))
((4, 6, 5), ((0, 1, 3),), (0, 2))

>>> from carrynet.nets import validate_phases
>>> validate_phases(((4, 6), ((0, 1, 3),), (0,)), (3, 6))
raises InvalidPhases(1)

>>> from carrynet.ticks import after, arrivals, carries
>>> net = ((4, 6), ((0, 1, 3),), (0,))
>>> (arrivals(net, (0, 0), (10, 0)), carries(net, (0, 0), (10, 0)), after(net, (0, 0), (10, 0)))
((10, 6), (2, 1), (2, 0))

>>> from carrynet.ticks import after, carries
>>> net = ((4, 6), ((0, 1, 3),), (0,))
>>> (after(net, (3, 5), (-4, 0)), carries(net, (3, 5), (-4, 0)))
((3, 2), (-1, 0))

>>> from carrynet.ticks import after
>>> after(((2, 3), ((0, 1, -1),), (0,)), (0, 0), (2, 0))
(0, 2)

>>> from carrynet.ticks import vector_of
>>> vector_of(((2, 2), ((0, 1, 1),), (0, 1)), 1, 0, 1, times=-3)
(-3, -6)

>>> from carrynet.ticks import vector_of_walk
>>> vector_of_walk(((4, 6), ((0, 1, 3),), (0,)), ((0, 1), (0, 1), (0, -1)))
(1, 0)

>>> from carrynet.events import events
>>> list(events(((4, 6), ((0, 1, 3),), (0,)), (3, 5), ((0, 1), (0, 1), (0, -1))))
[(0, 0, 1), (0, 1, 1)]

>>> from carrynet.events import states_along
>>> list(states_along(((4, 6), ((0, 1, 3),), (0,)), (3, 5), ((0, 1), (0, 1), (0, -1))))
[(0, 2), (1, 2), (0, 2)]

>>> from carrynet.events import reached
>>> list(reached(((4, 6), ((0, 1, 3),), (0,)), (0, 0)))
[(0, 0), (1, 0), (2, 0), (3, 0), (0, 3), (1, 3), (2, 3), (3, 3)]

>>> from carrynet.lattice import restores
>>> (restores(((4, 6), ((0, 1, 3),), (0,)), (8, 0)), restores(((4, 6), ((0, 1, 3),), (0,)), (4, 0)))
(True, False)

>>> from carrynet.lattice import basis
>>> (basis(((4, 6), ((0, 1, 3),), (0,))), basis(((2, 2), ((0, 1, 1),), (0, 1))))
(((8, 0),), ((2, 1), (0, 2)))

>>> from carrynet.lattice import remainder
>>> (remainder(((4, 6), ((0, 1, 3),), (0,)), (19, 0)), remainder(((4, 6), ((0, 1, 3),), (0,)), (-1, 0)))
((3, 0), (7, 0))

>>> from carrynet.lattice import class_count, reached_count
>>> (reached_count(((4, 6), ((0, 1, 3),), (0,))), class_count(((4, 6), ((0, 1, 3),), (0,))))
(8, 3)

>>> from carrynet.lattice import order_of
>>> order_of(((4, 6), ((0, 1, 3),), (0,)), (6, 0))
4

>>> from carrynet.reaching import difference
>>> difference(((4, 6), ((0, 1, 3),), (0,)), (3, 5), (1, 0))
(2, 4)

>>> from carrynet.reaching import value_of
>>> value_of(((4, 6), ((0, 1, 3),), (0,)), (2, 5), ((0, 1), 3))
2

>>> from carrynet.reaching import invariants
>>> invariants(((4, 6), ((0, 1, 3),), (0,)))
(((0, 1), 3),)

>>> from carrynet.reaching import way
>>> net = ((4, 6), ((0, 1, 3),), (0,))
>>> (way(net, (0, 0), (1, 3)), way(net, (0, 0), (0, 1)))
(('ticks', (5, 0)), ('invariant', ((0, 1), 3)))

>>> from carrynet.reaching import check_way
>>> check_way(((4, 6), ((0, 1, 3),), (0,)), (0, 0), (1, 3), ("ticks", (-3, 0)))
'ticks'

>>> from carrynet.machines import Machine
>>> machine = Machine.made(4, 6, wires=((0, 1, 3),), inputs=(0,))
>>> first = machine.rehearse(((0,), 10), ((0, 0), -1))
>>> second = machine.tick(0, 0, times=5)
>>> (first, second, machine.phases, machine.carried)
((((2, 0), (2, 1)), ((0, 0), (0, 0))), (2, 1), (2, 0), (2, 1))

>>> from carrynet.machines import Machine
>>> Machine(((4, 6), ((0, 1, 3),), (0,))).tick(1)
raises NotAnInput(1)

>>> from carrynet.machines import Machine
>>> machine = Machine(((4, 6), ((0, 1, 3),), (0,)))
>>> machine.phases = (3, 4)
>>> (machine.tick(0), machine.phases, machine.tick())
((1, 1), (0, 1), (0, 0))

>>> from carrynet.machines import Recorder
>>> recorder = Recorder(((4, 6), ((0, 1, 3),), (0,)), phases=(3, 5))
>>> first = recorder.tick(0)
>>> second = recorder.tick(0, times=7)
>>> last = recorder.undo(count=2)
>>> (first, second, recorder.phases, recorder.carried, recorder.history)
((1, 1), (1, 0), (3, 5), (0, 0), ())

>>> from carrynet.machines import Odometer
>>> odometer = Odometer(10, 10, 10, reading=995)
>>> rounds = odometer.advance(7)
>>> (rounds, odometer.reading, odometer.phases)
(1, 2, (2, 0, 0))

>>> from carrynet.rates import carry_range, gains, offset_of, rate_of, spread
>>> net = ((4, 6), ((0, 1, 3),), (0,))
>>> (gains(net, 1), gains(net, 0), spread(net, 1))
(((1, 8), (1, 6)), ((1, 4), (0, 1)), (29, 24))

>>> from carrynet.rates import carry_range, offset_of, rate_of
>>> net = ((4, 6), ((0, 1, 3),), (0,))
>>> (rate_of(net, (10, 0), 1), offset_of(net, (2, 0), 1), carry_range(net, (10, 0), 1))
((5, 4), (1, 4), (1, 2))

>>> from carrynet.rates import gains
>>> gains(((2, 3), ((0, 1, -1),), (0,)), 1)
((-1, 6), (1, 3))

>>> from carrynet.forecasts import forecast
>>> net = ((4, 6), ((0, 1, 3),), (0,))
>>> (forecast(net, (0, 0), 0, 1), forecast(net, (3, 5), 0, 1), forecast(net, (0, 0), 0, 1, count=2))
(8, 1, 16)

>>> from carrynet.forecasts import carry_ticks
>>> list(carry_ticks(((2, 3), ((0, 1, 7),), (0,)), (0, 0), 0, 1, last=7))
[(2, 2), (4, 2), (6, 3)]

>>> from carrynet.forecasts import arrival, first_to_carry
>>> net = ((4, 6), ((0, 1, 3),), (0,))
>>> (first_to_carry(net, (0, 0), 0), first_to_carry(net, (0, 0), 0, 1), arrival(net, (0, 0), (1, 3), 0), arrival(net, (0, 0), (0, 1), 0))
((4, (0,)), (8, (1,)), 5, None)

>>> from carrynet.ways import cheapest_way, radius
>>> net = ((4, 6), ((0, 1, 3),), (0,))
>>> (cheapest_way(net, (0, 0), (1, 3)), cheapest_way(net, (0, 0), (0, 3)), cheapest_way(net, (0, 0), (0, 1)), radius(net))
((-3, 0), (-4, 0), None, 4)

>>> from carrynet.ways import cheapest_way
>>> net = ((2, 2), ((0, 1, 1),), (0, 1))
>>> (cheapest_way(net, (0, 0), (0, 1)), cheapest_way(net, (0, 0), (0, 1), 1, 5))
((0, -1), (-2, 0))

>>> from carrynet.ways import shells
>>> list(shells(((4, 6), ((0, 1, 3),), (0,)), (0, 0)))
[((0, 0),), ((1, 0), (3, 3)), ((2, 0), (2, 3)), ((1, 3), (3, 0)), ((0, 3),)]

>>> from carrynet.drives import first_difference, joint_period, record_start
>>> one = (((4, 6), ((0, 1, 3),), (0,)), (0, 0), (2, 0), 1)
>>> other = (((4,), (), (0,)), (1,), (1,), 0)
>>> (record_start(one, 5), record_start(other, 5), first_difference(one, other), joint_period(one, other))
((0, 0, 0, 1, 0), (0, 0, 1, 0, 0), 3, 4)

>>> from carrynet.drives import alike_groups
>>> one = (((4, 6), ((0, 1, 3),), (0,)), (0, 0), (2, 0), 1)
>>> alike_groups(one, (((4,), (), (0,)), (1,), (1,), 0), (((4,), (), (0,)), (0,), (1,), 0))
((0, 2), (1,))

>>> from carrynet.drives import trimmed
>>> trimmed(((4, 6, 5), ((0, 1, 3), (0, 2, 1)), (0, 2)), 1)
(((4, 6), ((0, 1, 3),), (0,)), (0, 1))

>>> from carrynet.texts import fraction_text, net_text, numbers_text, parse_net
>>> (net_text(((4, 6), ((0, 1, 3),), (0,))), numbers_text(3, -5), numbers_text(), fraction_text((1, 8)))
('4 6 0>1:3 @0', '3 -5', 'none', '1/8')

>>> from carrynet.texts import parse_net
>>> parse_net('4 6 1>0:3 @0')
raises InvalidText(3)

>>> from carrynet.meters import Meter
>>> meter = Meter(((4, 6), ((0, 1, 3),), (0,)), output=1)
>>> first = meter.tick(0, times=10)
>>> marks = meter.marks
>>> done = meter.measure(0)
>>> (first, marks, meter.marks, meter.total, meter.expected(0, 0))
((2, 1), (1,), (), 2, (1, 2))

>>> from carrynet.meters import LoggedMeter
>>> meter = LoggedMeter(((4, 6), ((0, 1, 3),), (0,)), output=1, phases=(3, 5))
>>> first = meter.tick(0)
>>> second = meter.tick(0, times=7)
>>> last = meter.undo()
>>> (first, second, meter.marks, meter.history, meter.phases, meter.total)
((1, 1), (1, 0), (1,), (((0,), 1),), (0, 2), 1)

>>> from carrynet.session import Session
>>> session = Session.from_text('4 6 0>1:3 @0')
>>> answers = list(session.execute_all('output 1', 'tick 10 0', 'marks', 'rate 0', 'forecast 0 1', 'undo', 'show', 'way 1 3', 'tick 1 1'))
>>> answers
['done', '2 1', '1', '1/8', '6', 'done', '0 0', '-3 0', 'not an input']

>>> from carrynet.session import Session
>>> session = Session(((4, 6), ((0, 1, 3),), (0,)))
>>> (session.attempt('tick 3 0', 'tick 1 1'), session.execute('show'), session.attempt('tick 3 0', 'show'))
('not an input', '0 0', ('0 0', '3 0'))
"""


def run(example):
    """The result of the last line of an example, or its error, and what the document tells of it."""
    lines = example.strip().split("\n")
    sources = [line.removeprefix(">>> ") for line in lines if line.startswith(">>> ")]
    names = {}
    exec("\n".join(sources[:-1]), names)
    try:
        return (repr(eval(sources[-1], names)), lines[-1])
    except (errors.CarryError, errors.CarryStateError) as error:
        fields = ", ".join(repr(field) for field in vars(error).values())
        return (f"raises {type(error).__name__}({fields})", lines[-1])


class Examples(unittest.TestCase):
    def test_each_example(self):
        examples = EXAMPLES.strip().split("\n\n")
        self.assertEqual(len(examples), 47)
        for example in examples:
            with self.subTest(example):
                result, wanted = run(example)
                self.assertEqual(result, wanted)


if __name__ == "__main__":
    unittest.main()
