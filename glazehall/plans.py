"""Plans: what a layer is at one cell, its rule, and what a row of them tells when it is laid plainly."""

from glazehall.fractions import ONE, minus, plus, times
from glazehall.manners import adjusted, manner_of, weakened
from glazehall.rules import IDENTITY, behind, laid, mixed
from glazehall.shades import CLEAR


def rule_of_source(word, m, source):
    return manner_of(word).rule(weakened(source, m))


# Of a group, by the rule of its row.
def rule_of_whole(word, through, m, whole):
    if through:
        return mixed(whole, m)
    return rule_of_source(word, m, laid(whole, CLEAR))


def rule_of(plan):
    if plan[0] == "paint":
        return rule_of_source(plan[1], plan[2], plan[3])
    if plan[0] == "adjust":
        return mixed(adjusted(plan[1], plan[2]), plan[3])
    return rule_of_whole(plan[1], plan[2], plan[3], rule_of_all(plan[4]))


def rule_of_all(plans):
    whole = IDENTITY
    for plan in plans:
        whole = behind(whole, rule_of(plan))
    return whole


def mixed_part(old, new, share):
    return plus(times(minus(ONE, share), old), times(share, new))


def value_of_group(word, through, m, plans, value):
    if through:
        new = value_of(plans, value)
        return (mixed_part(value[0], new[0], m), mixed_part(value[1], new[1], m))
    return laid(rule_of_source(word, m, value_of(plans, CLEAR)), value)


def value_of_one(plan, value):
    if plan[0] == "group":
        return value_of_group(plan[1], plan[2], plan[3], plan[4], value)
    return laid(rule_of(plan), value)


# Laid layer by layer, without any product of rules: what the rule of the row tells can be held against this.
def value_of(plans, value):
    now = value
    for plan in plans:
        now = value_of_one(plan, now)
    return now
