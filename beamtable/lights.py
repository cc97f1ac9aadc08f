"""Light that has come to rest: what lamps reach, how strong it is there, what comes out and what is swallowed."""

from beamtable.balances import solved
from beamtable.errors import Ring
from beamtable.flows import gathered, light_of
from beamtable.passes import comes_in, goes_on, reached_from, swallowed_at
from beamtable.ratios import ZERO, times
from beamtable.ways import back_of


def passes_of(light):
    return [p for p, strength in light]


def reached(table, lamps):
    return sorted(reached_from(table, passes_of(light_of(table, lamps))))


def loses(table, p):
    return not comes_in(table, p) or swallowed_at(table, p) != ZERO


def is_caught(table, p):
    return not any([loses(table, following) for following in reached_from(table, [p])])


def check_rings(table, passes):
    losing = [p for p in reached_from(table, passes) if loses(table, p)]
    # Light takes the same steps both ways: one walk back from all losses finds whatever comes to any of them.
    freed = reached_from(table, [back_of(p) for p in losing])
    for p in passes:
        if back_of(p) not in freed:
            raise Ring(sorted(reached_from(table, [p])))


def knots_of(table, passes):
    # Between these passes light goes along rays, so that nothing else needs to be unknown.
    parted = [p for p in reached_from(table, passes) if len(goes_on(table, p)) > 1]
    return sorted(set(passes + parted))


def stretch(table, first, numbers):
    # No ring lies ahead without a knot: a ray never runs into its own middle.
    told = [first]
    onward = goes_on(table, first[0])
    while told[-1][0] not in numbers and onward != []:
        told.append((onward[0][0], times(told[-1][1], onward[0][1])))
        onward = goes_on(table, onward[0][0])
    return told


def stretches_of(table, numbers):
    told = []
    for knot, number in numbers.items():
        told.extend([(number, stretch(table, first, numbers)) for first in goes_on(table, knot)])
    return told


def balance_of(light, numbers, stretches):
    given = dict(light)
    rows = [(given.get(knot, ZERO), []) for knot in numbers]
    for number, pairs in stretches:
        last = pairs[-1]
        if last[0] in numbers:
            rows[numbers[last[0]]][1].append((number, last[1]))
    return rows


def strengths(table, lamps):
    light = light_of(table, lamps)
    check_rings(table, passes_of(light))
    knots = knots_of(table, passes_of(light))
    numbers = dict([(knot, number) for number, knot in enumerate(knots)])
    stretches = stretches_of(table, numbers)
    values = solved(balance_of(light, numbers, stretches))
    told = list(zip(knots, values))
    for number, pairs in stretches:
        told.extend([(p, times(values[number], share)) for p, share in pairs if p not in numbers])
    return gathered(told)


def parted_light(table, light):
    out = [(p, strength) for p, strength in light if not comes_in(table, p)]
    lost = []
    for p, strength in light:
        share = swallowed_at(table, p)
        if share != ZERO:
            lost.append(((p[0], p[1]), times(strength, share)))
    return (out, gathered(lost))


def outcome(table, lamps):
    return parted_light(table, strengths(table, lamps))
