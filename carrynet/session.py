"""Sessions: a logged meter that executes commands, and answers each of them with a string."""

from carrynet.errors import InvalidCounter, InvalidPhases, InvalidText, InvalidTimes
from carrynet.errors import NotAnInput, NothingToUndo, NotPositive, TooLarge
from carrynet.forecasts import MOST_CARRIES, forecast
from carrynet.meters import LoggedMeter
from carrynet.nets import check_counter, check_input, is_between
from carrynet.rates import gains
from carrynet.texts import fraction_text, integer_of, net_text, numbers_text, parse_net, parse_numbers
from carrynet.ways import cheapest_way

GREATEST_NUMBER = 999999999999
DONE = "done"


def check_many(words, many):
    """Refuse a command that does not consist of so many words."""
    if len(words) != many:
        raise InvalidText(min(len(words), many) + 1)


def number_at(words, place):
    """The integer with at most 12 digits that is the text at this place."""
    number = integer_of(words[place])
    if number is None or not is_between(number, -GREATEST_NUMBER, GREATEST_NUMBER):
        raise InvalidText(place + 1)
    return number


def counter_at(meter, words, place):
    """The counter that is the text at this place."""
    counter = integer_of(words[place])
    check_counter(meter.net, counter)
    return counter


def state_of(meter, words):
    """The integers behind the first word, as many as there are counters; they need not be phases."""
    numbers = parse_numbers(" ".join(words[1:]))
    # Counting the words would take "none" for an integer.
    if len(numbers) != len(meter.net[0]):
        raise InvalidText(len(words) + 1)
    return numbers


def tick_counters(meter, words):
    if len(words) < 2:
        raise InvalidText(2)
    times = number_at(words, 1)
    counters = [counter_at(meter, words, place) for place in range(2, len(words))]
    carried = meter.tick(*counters, times=times)
    return numbers_text(*carried)


def undo_latest(meter, words):
    check_many(words, 1)
    meter.undo()
    return DONE


def assign_phases(meter, words):
    meter.begin_at(state_of(meter, words))
    return DONE


def assign_output(meter, words):
    check_many(words, 2)
    meter.measure(counter_at(meter, words, 1))
    return DONE


def show_phases(meter, words):
    check_many(words, 1)
    phases = meter.phases
    return numbers_text(*phases)


def show_carried(meter, words):
    check_many(words, 1)
    carried = meter.carried
    return numbers_text(*carried)


def show_marks(meter, words):
    check_many(words, 1)
    marks = meter.marks
    return numbers_text(*marks)


def show_net(meter, words):
    check_many(words, 1)
    return net_text(meter.net)


def tell_rate(meter, words):
    check_many(words, 2)
    counter = counter_at(meter, words, 1)
    return fraction_text(gains(meter.net, meter.output)[counter])


def tell_forecast(meter, words):
    check_many(words, 3)
    counter = counter_at(meter, words, 1)
    count = number_at(words, 2)
    # A wrong input and a wrong number are told before negative weights, unlike in the function.
    check_input(meter.net, counter)
    if not is_between(count, 1, MOST_CARRIES):
        raise InvalidTimes(count)
    times = forecast(meter.net, meter.phases, counter, meter.output, count=count)
    return "never" if times is None else str(times)


def tell_way(meter, words):
    vector = cheapest_way(meter.net, meter.phases, state_of(meter, words))
    return "no way" if vector is None else numbers_text(*vector)


# What each command does to a meter; a new net needs a new meter, and is not among them.
ACTIONS = {
    "tick": tick_counters, "undo": undo_latest, "phases": assign_phases, "output": assign_output,
    "show": show_phases, "carried": show_carried, "marks": show_marks, "save": show_net,
    "rate": tell_rate, "forecast": tell_forecast, "way": tell_way,
}


class Session:
    """A logged meter, which can be replaced by one of another net, and the commands that it executes."""

    def __init__(self, net=((2,), (), (0,))):
        self._meter = LoggedMeter(net, output=0)

    @classmethod
    def from_text(cls, text):
        """A session of this class, with the net of the text."""
        return cls(parse_net(text))

    @staticmethod
    def is_command(value):
        """Whether the value is a string that begins with the word of a command."""
        if not isinstance(value, str):
            return False
        word = value.split(" ")[0]
        return word == "net" or word in ACTIONS

    @property
    def meter(self):
        return self._meter.twin()

    def perform(self, command):
        """The answer to a command; one that fails raises an error and changes nothing."""
        if not self.is_command(command):
            raise InvalidText(1)
        words = command.split(" ")
        if words[0] == "net":
            self._meter = LoggedMeter(parse_net(" ".join(words[1:])), output=0)
            return DONE
        action = ACTIONS[words[0]]
        return action(self._meter, words)

    def outcome(self, command):
        """Whether a command succeeds, and its answer."""
        try:
            return (True, self.perform(command))
        except (InvalidText, InvalidCounter):
            return (False, "bad command")
        except InvalidPhases:
            return (False, "bad phases")
        except NotAnInput:
            return (False, "not an input")
        except InvalidTimes:
            return (False, "bad number")
        except NotPositive:
            return (False, "not positive")
        except TooLarge:
            return (False, "too large")
        except NothingToUndo:
            return (False, "nothing to undo")

    def execute(self, command):
        """Execute a command, and return its answer."""
        return self.outcome(command)[1]

    def execute_all(self, *commands):
        """Execute the commands, each one when its answer is requested."""
        for command in commands:
            yield self.execute(command)

    def attempt(self, *commands):
        """Execute all commands and return their answers, or none and return the answer of the first that fails."""
        before = self._meter.twin()
        answers = []
        for command in commands:
            succeeds, answer = self.outcome(command)
            if not succeeds:
                self._meter = before
                return answer
            answers.append(answer)
        return tuple(answers)
