"""Texts of integers, fractions and nets, and parsers that accept exactly these texts."""

from math import gcd

from carrynet.errors import InvalidText
from carrynet.nets import is_net, validate_net

MOST_DIGITS = 40
NO_NUMBERS = "none"


def numbers_text(*numbers):
    return " ".join([str(number) for number in numbers]) or NO_NUMBERS


def fraction_text(fraction):
    numerator, denominator = fraction
    if denominator == 1:
        return str(numerator)
    return f"{numerator}/{denominator}"


def net_text(net):
    """The text of a net: the moduli, then the wires, then the inputs."""
    validate_net(net)
    moduli, wires, inputs = net
    words = [str(modulus) for modulus in moduli]
    words.extend([f"{origin}>{target}:{weight}" for origin, target, weight in wires])
    words.extend([f"@{counter}" for counter in inputs])
    return " ".join(words)


def words_of(text):
    """The words between the spaces, some of which may be empty."""
    if not isinstance(text, str):
        raise InvalidText(0)
    return text.split(" ")


def is_numeral(word):
    """Whether the word is the text of an integer of at least 0."""
    if not 1 <= len(word) <= MOST_DIGITS or (word[0] == "0" and len(word) > 1):
        return False
    return all([sign in "0123456789" for sign in word])


def integer_of(word):
    """The integer with this text, or None."""
    if word == "-0" or not is_numeral(word.removeprefix("-")):
        return None
    return int(word)


def parse_numbers(text):
    """The integers with this text."""
    words = words_of(text)
    if words[0] == NO_NUMBERS:
        if len(words) > 1:
            raise InvalidText(2)
        return ()
    numbers = [integer_of(word) for word in words]
    if None in numbers:
        raise InvalidText(numbers.index(None) + 1)
    return tuple(numbers)


def fraction_of(word):
    """The fraction with this text, or None."""
    if "/" not in word:
        number = integer_of(word)
        return None if number is None else (number, 1)
    over, _, under = word.partition("/")
    numerator = integer_of(over)
    denominator = integer_of(under)
    if numerator is None or denominator is None:
        return None
    if denominator < 2 or gcd(numerator, denominator) != 1:
        return None
    return (numerator, denominator)


def parse_fraction(text):
    """The fraction with this text."""
    words = words_of(text)
    fraction = fraction_of(words[0])
    if fraction is None:
        raise InvalidText(1)
    if len(words) > 1:
        raise InvalidText(2)
    return fraction


def wire_of(word):
    """The integers in the text of a wire, with None for each one that is wrong."""
    origin, _, rest = word.partition(">")
    target, _, weight = rest.partition(":")
    return (integer_of(origin), integer_of(target), integer_of(weight))


def extended(net, word):
    """The net with the modulus, the wire or the input of one more word, or None if the word is not allowed here.

    A net without counters stands for no words at all. The words after the last modulus do not change the counters,
    so the words of a net are right exactly if each one, with those before it, makes a net.
    """
    moduli, wires, inputs = net
    if word.startswith("@"):
        longer = (moduli, wires, (*inputs, integer_of(word[1:])))
    elif ">" in word and inputs == ():
        longer = (moduli, (*wires, wire_of(word)), inputs)
    elif wires == () and inputs == ():
        longer = ((*moduli, integer_of(word)), wires, inputs)
    else:
        return None
    return longer if is_net(longer) else None


def parse_net(text):
    """The net with this text."""
    net = ((), (), ())
    for number, word in enumerate(words_of(text), start=1):
        net = extended(net, word)
        if net is None:
            raise InvalidText(number)
    return net
