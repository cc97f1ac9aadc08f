"""The passes of a table, and where light goes on from them."""

from beamtable.errors import NoPass
from beamtable.ratios import ZERO
from beamtable.ways import WAYS, back_of, beyond


def comes_in(table, p):
    return table.has_place(p[0], p[1])


def comes_out(table, p):
    return comes_in(table, back_of(p))


def check_pass(table, p):
    # The way is looked at first: only of a way is it known what lies behind.
    if p[2] not in WAYS or not (comes_in(table, p) or comes_out(table, p)):
        raise NoPass("the table has no such pass")


def passes_in(table):
    found = []
    for x in range(table.width()):
        for y in range(table.height()):
            found.extend([(x, y, way) for way in WAYS])
    return found


def inlets(table):
    return sorted([p for p in passes_in(table) if not comes_out(table, p)])


def outlets(table):
    return sorted([back_of(p) for p in inlets(table)])


def all_passes(table):
    return sorted(passes_in(table) + outlets(table))


def leaving(place, way):
    there = beyond(place[0], place[1], way)
    return (there[0], there[1], way)


def goes_on(table, p):
    check_pass(table, p)
    if not comes_in(table, p):
        return []
    place = table.other_end(p[0], p[1])
    if place is None:
        place = (p[0], p[1])
    leads = table.cell(p[0], p[1]).leads(p[2])
    return sorted([(leaving(place, way), share) for way, share in leads])


def swallowed_at(table, p):
    check_pass(table, p)
    if not comes_in(table, p):
        return ZERO
    return table.cell(p[0], p[1]).swallows()


def reached_from(table, starts):
    # A dict of True, in the order in which the passes were come to.
    found = {}
    waiting = list(starts)
    while waiting != []:
        p = waiting.pop()
        if p not in found:
            found[p] = True
            waiting.extend([following for following, share in goes_on(table, p)])
    return found
