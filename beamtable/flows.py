"""Light, a sorted list of pairs (pass, strength): of lamps, one step on, added, made stronger."""

from beamtable.errors import NoStrength
from beamtable.passes import check_pass, goes_on, swallowed_at
from beamtable.ratios import ZERO, plus, times, under


def check_strength(strength):
    if not under(ZERO, strength):
        raise NoStrength("a strength is above 0")


def gathered(pairs):
    strengths = {}
    for p, strength in pairs:
        strengths[p] = plus(strengths.get(p, ZERO), strength)
    return sorted(strengths.items())


def light_of(table, lamps):
    for p, strength in lamps:
        check_pass(table, p)
        check_strength(strength)
    return gathered(lamps)


def stepped(table, light):
    parts = []
    for p, strength in light:
        parts.extend([(following, times(strength, share)) for following, share in goes_on(table, p)])
    return gathered(parts)


def lost_in(table, light):
    lost = ZERO
    for p, strength in light:
        lost = plus(lost, times(strength, swallowed_at(table, p)))
    return lost


def sum_of(light):
    whole = ZERO
    for p, strength in light:
        whole = plus(whole, strength)
    return whole


def joined(one, other):
    return gathered(one + other)


def scaled(light, by):
    check_strength(by)
    return [(p, times(strength, by)) for p, strength in light]
