"""Manners: the five ways by which a source, a shade (s, u), is laid, and the rules of layers that only adjust."""

from glazehall.errors import NoGain, NoManner
from glazehall.fractions import NOUGHT, ONE, made, minus, plus, times
from glazehall.shades import is_shade
from glazehall.wholes import is_sixteenth

WORDS = ("over", "under", "screen", "times", "atop")


# All manners but atop add their source, and let through as much thickness as the source leaves.
def adding(g, p, source):
    return (g, p, source[0], minus(ONE, source[1]), source[1])


# What all manners have in common; the word and the rule are each manner's own.
class Manner:
    def word(self):
        raise NotImplementedError("each manner has a word of its own")

    def rule(self, source):
        raise NotImplementedError("each manner has a rule of its own")

    def only_source(self, rule):
        return (rule[2], rule[4])

    def found(self, rule):
        source = self.only_source(rule)
        return source if is_shade(source) else None


class Over(Manner):
    def word(self):
        return "over"

    def rule(self, source):
        return adding(minus(ONE, source[1]), NOUGHT, source)


class Under(Manner):
    def word(self):
        return "under"

    def rule(self, source):
        return adding(ONE, minus(NOUGHT, source[0]), source)


class Screen(Manner):
    def word(self):
        return "screen"

    def rule(self, source):
        return adding(minus(ONE, source[0]), NOUGHT, source)


class Times(Manner):
    def word(self):
        return "times"

    def rule(self, source):
        return adding(plus(minus(ONE, source[1]), source[0]), minus(NOUGHT, source[0]), source)


class Atop(Manner):
    def word(self):
        return "atop"

    def rule(self, source):
        return (minus(ONE, source[1]), source[0], NOUGHT, ONE, NOUGHT)

    # This manner adds nothing: its source shows in what it does to the value alone.
    def only_source(self, rule):
        return (rule[1], minus(ONE, rule[0]))


def manner_of(word):
    if isinstance(word, str):
        for manner in [Over(), Under(), Screen(), Times(), Atop()]:
            if manner.word() == word:
                return manner
    raise NoManner("a manner's word is over, under, screen, times or atop")


def weakened(source, m):
    return (times(m, source[0]), times(m, source[1]))


def adjusted(gain, lift):
    if not is_sixteenth(gain) or not is_sixteenth(lift) or gain + lift > 16:
        raise NoGain("a gain and a lift are two sixteenths, together not above 16")
    return (made(gain, 16), made(lift, 16), NOUGHT, ONE, NOUGHT)
