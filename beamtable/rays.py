"""Rays, followed as long as light is not parted, and trails, all ways that light may take."""

from beamtable.errors import NoMost
from beamtable.passes import check_pass, comes_in, goes_on
from beamtable.ratios import ONE, times

LONGEST_TRAIL = 12


def check_most(most):
    if not 1 <= most <= LONGEST_TRAIL:
        raise NoMost("a trail is told with 1 to 12 passes at most")


def stop_at(table, p):
    # Told only of a pass from which no light goes on: an outlet, or one that comes into a wall.
    return "wall" if comes_in(table, p) else "out"


def ray_from(table, p):
    passes = [p]
    share = ONE
    onward = goes_on(table, p)
    while len(onward) == 1:
        following = onward[0][0]
        share = times(share, onward[0][1])
        # A ray never runs into its own middle: from the back, each of its passes leads to one pass alone.
        if following == p:
            return (passes, share, "ring")
        passes.append(following)
        onward = goes_on(table, following)
    if onward == []:
        return (passes, share, stop_at(table, passes[-1]))
    return (passes, share, "half")


def trails_from(table, p, most):
    check_pass(table, p)
    check_most(most)
    told = []
    begun = [([p], ONE)]
    while begun != []:
        trail = begun.pop()
        passes = trail[0]
        share = trail[1]
        onward = goes_on(table, passes[-1])
        if onward == []:
            told.append((passes, share, stop_at(table, passes[-1])))
        elif len(passes) == most:
            told.append((passes, share, "on"))
        else:
            begun.extend([(passes + [following], times(share, part)) for following, part in onward])
    return sorted(told, key=lambda told_one: told_one[0])
