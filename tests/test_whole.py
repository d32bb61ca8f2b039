"""The program as a whole: sessions, meters, drives and functions agree."""

import itertools
import math
import unittest
from fractions import Fraction

from carrynet.drives import joint_period, record, record_start
from carrynet.events import events, reached
from carrynet.forecasts import arrival, carry_ticks, forecast
from carrynet.lattice import order_of, reached_count
from carrynet.meters import LoggedMeter, Meter
from carrynet.rates import carry_range, gains, offset_of, rate_of
from carrynet.reaching import check_way, way
from carrynet.session import Session
from carrynet.texts import fraction_text, net_text, numbers_text, parse_net, parse_numbers
from carrynet.ticks import after, carries, total_of, vector_of
from carrynet.ways import cheapest_way, shells
from tests.draws import Draw, large_nets, positive, small_nets
from tests.helpers import total, unit
from tests.machine_helpers import drawn_calls


def spaced(*words):
    return " ".join(map(str, words))


class SessionsAndFunctions(unittest.TestCase):
    def drawn_sessions(self, seed, change=lambda net: net):
        """Sessions with a net, a state and an output, which have ticked before."""
        draw = Draw(seed)
        for net in map(change, small_nets(seed, 40) + large_nets(seed, 15)):
            session, state, output = Session(net), draw.state(net), draw.number(0, len(net[0]) - 1)
            session.attempt(spaced("tick", 5, *net[2]), spaced("phases", *state), spaced("output", output))
            yield draw, session, net, state, output

    def test_ticks(self):
        # 4.5
        for draw, session, net, state, _ in self.drawn_sessions(1):
            for counters, times in drawn_calls(draw, net, 5, most=draw.choice((9, 10 ** 12 - 1))):
                vector = vector_of(net, *counters, times=times)
                self.assertEqual(session.execute(spaced("tick", times, *counters)),
                                 numbers_text(*carries(net, state, vector)))
                state = after(net, state, vector)
                self.assertEqual(session.execute("show"), numbers_text(*state))

    def test_gains(self):
        # 8.2
        for _, session, net, _, output in self.drawn_sessions(2):
            for counter in range(len(net[0])):
                self.assertEqual(session.execute(spaced("rate", counter)), fraction_text(gains(net, output)[counter]))

    def test_forecasts(self):
        # 9.2
        for draw, session, net, state, output in self.drawn_sessions(3, positive):
            for counter in net[2]:
                count = draw.choice((1, 2, draw.number(1, 10 ** 6)))
                known = forecast(net, state, counter, output, count=count)
                wanted = "never" if known is None else str(known)
                self.assertEqual(session.execute(spaced("forecast", counter, count)), wanted)

    def test_cheapest_ways(self):
        # 10.2
        for draw, session, net, state, _ in self.drawn_sessions(4):
            goal = draw.state(net)
            answer = session.execute(spaced("way", *goal))
            if reached_count(net) > 2000:
                self.assertEqual(answer, "too large")
            else:
                known = cheapest_way(net, state, goal)
                self.assertEqual(answer, "no way" if known is None else numbers_text(*known))

    def test_texts(self):
        # 12.2
        for _, session, net, state, _ in self.drawn_sessions(5):
            self.assertEqual(session.execute("save"), net_text(net))
            self.assertEqual(parse_net(session.execute("save")), net)
            self.assertEqual(parse_numbers(session.execute("show")), state)
            self.assertEqual(parse_numbers(session.execute("carried")), session.meter.carried)
            self.assertEqual(parse_numbers(session.execute("marks")), session.meter.marks)

    def test_meters(self):
        # 13.3
        for draw, session, net, state, output in self.drawn_sessions(6):
            meter = session.meter
            for counters, times in drawn_calls(draw, net, 6):
                meter.tick(*counters, times=times)
                session.execute(spaced("tick", times, *counters))
                if draw.number(0, 2) == 0:
                    meter.undo()
                    session.execute("undo")
                self.assertEqual(parse_numbers(session.execute("marks")), meter.marks)
                self.assertEqual(parse_numbers(session.execute("carried")), meter.carried)
                self.assertEqual(session.meter.history, meter.history)


class Marks(unittest.TestCase):
    """8.3, 8.4."""

    def test_their_sum(self):
        draw = Draw(11)
        for net in small_nets(11, 50) + large_nets(11, 20):
            for kind in (Meter, LoggedMeter):
                output, state = draw.number(0, len(net[0]) - 1), draw.state(net)
                meter = kind(net, output=output, phases=state)
                vectors = []
                expected = Fraction(0)
                for counters, times in drawn_calls(draw, net, 6, most=draw.choice((9, 10 ** 12))):
                    expected += Fraction(*meter.expected(*counters, times=times))
                    vectors.append(vector_of(net, *counters, times=times))
                    meter.tick(*counters, times=times)
                vector = total_of(net, *vectors)
                self.assertEqual(expected, Fraction(*rate_of(net, vector, output)))
                change = Fraction(*offset_of(net, state, output)) - Fraction(*offset_of(net, meter.phases, output))
                self.assertEqual(sum(meter.marks), expected + change)
                least, greatest = carry_range(net, vector, output)
                self.assertIn(sum(meter.marks), range(least, greatest + 1))
                self.assertEqual(sum(meter.marks), meter.total)


class Drives(unittest.TestCase):
    """11.1, 11.2."""

    def test_one_period(self):
        draw = Draw(21)
        tried = 0
        for net in small_nets(21, 80):
            drive = (net, draw.state(net), draw.vector(net, 9), draw.number(0, len(net[0]) - 1))
            period = joint_period(drive)
            if period <= 20000:
                tried += 1
                self.assertEqual(sum(record_start(drive, period)), period * Fraction(*rate_of(net, drive[2], drive[3])))
        self.assertGreater(tried, 60)

    def test_the_marks_of_a_meter(self):
        draw = Draw(22)
        for net in small_nets(22, 40):
            for counter in net[2]:
                output, state = draw.number(0, len(net[0]) - 1), draw.state(net)
                meter = Meter(net, output=output, phases=state)
                drive = (net, state, unit(net, counter, -3), output)
                for _ in range(20):
                    meter.tick(counter, times=-3)
                self.assertEqual(meter.marks, record_start(drive, 20))

    def test_the_ticks_in_which_the_output_carries(self):
        draw = Draw(23)
        for net in map(positive, small_nets(23, 40)):
            counter, output, state = draw.choice(net[2]), draw.choice(net[2]), draw.state(net)
            drive = (net, state, unit(net, counter), output)
            found = [(n, count) for n, count in enumerate(itertools.islice(record(drive), 60), 1) if count]
            self.assertEqual(list(carry_ticks(net, state, counter, output, last=60)), found)
            walk = ((counter, 1),) * 60
            self.assertEqual([(n + 1, count) for n, at, count in events(net, state, walk) if at == output], found)


class Ways(unittest.TestCase):
    def test_cheapest_ways_are_ways(self):
        draw = Draw(31)
        for net in small_nets(31, 60):
            start, goal = draw.state(net), draw.state(net)
            if reached_count(net) <= 2000:
                found = cheapest_way(net, start, goal)
                kind = way(net, start, goal)[0]
                self.assertEqual(kind, "invariant" if found is None else "ticks")
                if found is not None:
                    self.assertEqual(check_way(net, start, goal, ("ticks", found)), "ticks")

    def test_shells_hold_what_is_reached(self):
        draw = Draw(32)
        for net in small_nets(32, 60):
            if reached_count(net) <= 2000:
                state = draw.state(net)
                self.assertEqual(sorted(itertools.chain(*shells(net, state))), sorted(reached(net, state)))

    def test_arrivals_and_orders(self):
        draw = Draw(33)
        for net in small_nets(33, 40) + large_nets(33, 20):
            start = draw.state(net)
            for counter in net[2]:
                order = order_of(net, unit(net, counter))
                # One tick back is one less than the order.
                goal = after(net, start, unit(net, counter, -1))
                self.assertEqual(arrival(net, start, goal, counter), order - 1)
                self.assertEqual(arrival(net, goal, start, counter), 1 % order)

    def test_joint_periods_of_sums(self):
        # 5.6: the order of a sum divides the joint period.
        draw = Draw(34)
        for net in small_nets(34, 40) + large_nets(34, 10):
            one, other = draw.vector(net, 9), draw.vector(net, 9)
            state = draw.state(net)
            period = joint_period((net, state, one, 0), (net, state, other, 0))
            self.assertEqual(math.gcd(period, order_of(net, total(one, other))), order_of(net, total(one, other)))


if __name__ == "__main__":
    unittest.main()
