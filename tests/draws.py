"""Nets, states and vectors that look drawn, and are the same in each run."""


class Draw:
    """A source of numbers that begins anew with each object."""

    def __init__(self, seed):
        self.seed = seed

    def number(self, least, greatest):
        """An integer from least to greatest, of any size."""
        drawn = 0
        reach = 1
        while reach < (greatest - least + 1) << 32:
            self.seed = (self.seed * 6364136223846793005 + 1442695040888963407) % 2 ** 64
            drawn = drawn << 32 | self.seed >> 32
            reach = reach << 32
        return least + drawn % (greatest - least + 1)

    def choice(self, items):
        return items[self.number(0, len(items) - 1)]

    def wires(self, counters, most_weight):
        """Wires between about two thirds of all pairs."""
        pairs = [(u, v) for u in range(counters) for v in range(u + 1, counters) if self.number(0, 2) > 0]
        return tuple((u, v, self.number(1, most_weight) * self.choice((1, -1))) for u, v in pairs)

    def net(self, counters, least=2, most=1000, most_weight=100):
        """A net with some of its counters as inputs, all of them or none included."""
        inputs = tuple(counter for counter in range(counters) if self.number(0, 1) == 1)
        moduli = tuple(self.number(least, most) for _ in range(counters))
        return (moduli, self.wires(counters, most_weight), inputs)

    def large_net(self):
        """A net with ten counters, the moduli of which have many common divisors in one half of the nets."""
        if self.number(0, 1) == 0:
            return self.net(10, least=900)
        _, wires, inputs = self.net(10)
        return (tuple(self.choice((60, 360, 720, 840, 900, 960, 1000)) for _ in range(10)), wires, inputs)

    def state(self, net):
        return tuple(self.number(0, modulus - 1) for modulus in net[0])

    def vector(self, net, most=10 ** 40):
        return tuple(self.number(-most, most) if counter in net[2] else 0 for counter in range(len(net[0])))


def small_nets(seed, many, counters=3, most=5):
    """Nets the states of which can be listed."""
    draw = Draw(seed)
    return [draw.net(draw.number(1, counters), most=most, most_weight=4) for _ in range(many)]


def large_nets(seed, many):
    draw = Draw(seed)
    return [draw.large_net() for _ in range(many)]


def with_inputs(net, inputs):
    return (*net[:2], inputs)


def positive(net):
    """The same net with positive weights, and with all counters as inputs."""
    moduli, wires, _ = net
    return (moduli, tuple((u, v, abs(w)) for u, v, w in wires), tuple(range(len(moduli))))
