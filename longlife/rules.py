"""Rules: which cells are alive in the next generation."""

from longlife.errors import InvalidRule

BIRTH_DIGITS = "12345678"
SURVIVAL_DIGITS = "012345678"


class Rule:
    """The numbers of living neighbours with which a cell is born, and with which it stays alive."""

    def __init__(self, births, survival):
        self.births = tuple(sorted(set(births)))
        self.survival = tuple(sorted(set(survival)))

    def lives(self, alive, count):
        """Return whether a cell with this number of living neighbours is alive in the next generation."""
        numbers = self.survival if alive else self.births
        return count in numbers

    def __eq__(self, other):
        if type(self) is type(other):
            return self.births == other.births and self.survival == other.survival
        return False


def read_rule(string):
    """Return the rule with this written form."""
    births, _, survival = string.partition("/S")
    rule = Rule(_numbers(births, BIRTH_DIGITS), _numbers(survival, SURVIVAL_DIGITS))
    # The reading passes over all that is wrong, so only a written form comes out again as it went in.
    if write_rule(rule) != string:
        raise InvalidRule(f"not the written form of a rule: {string}")
    return rule


def write_rule(rule):
    """Return the written form of a rule."""
    return "B" + _digits(rule.births) + "/S" + _digits(rule.survival)


def _numbers(text, digits):
    return [int(character) for character in text if character in digits]


def _digits(numbers):
    return "".join([str(number) for number in numbers])
