"""Whether two layers are one layer of a manner, and whether plans laid by themselves are what they are let through."""

from glazehall.fractions import ONE
from glazehall.manners import manner_of
from glazehall.plans import rule_of, rule_of_all
from glazehall.rules import grounds, parted


# The ground that parts a rule from each layer of the manner, or None where the only source there could be has it.
def parting(manner, source, rule):
    if source is None:
        return grounds()[0]
    return parted(manner.rule(source), rule)


def one_layer(pairs, word):
    manner = manner_of(word)
    sources = []
    for place, pair in enumerate(pairs):
        rule = rule_of_all(pair)
        source = manner.found(rule)
        ground = parting(manner, source, rule)
        if ground is not None:
            return ("parts", place, ground)
        sources.append(source)
    return ("one", sources)


def apart(word, cells):
    # A word of no manner is refused here, so that it is where there are no cells too.
    manner_of(word)
    for place, plans in enumerate(cells):
        ground = parted(rule_of(("group", word, False, ONE, plans)), rule_of_all(plans))
        if ground is not None:
            return (place, ground)
    return None
