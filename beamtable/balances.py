"""Rows of unknown fractions, each told by a constant and by shares of the others, solved exactly.

Here an equation is a list of whole numbers, one for each unknown and one more: each of them times its unknown
comes in all to the last one.
"""

from beamtable.errors import Loose
from beamtable.ratios import ONE, ZERO, fraction, greatest_divisor, minus


def least_multiple(one, other):
    return one // greatest_divisor(one, other) * other


def equation_of(number, row, size):
    parts = [ZERO] * size + [row[0]]
    parts[number] = ONE
    for other, share in row[1]:
        parts[other] = minus(parts[other], share)
    bottom = 1
    for part in parts:
        bottom = least_multiple(bottom, part[1])
    return [part[0] * (bottom // part[1]) for part in parts]


def lowest(equation):
    # Whole numbers that are kept small are faster by far than a fraction for each unknown.
    divisor = 0
    for part in equation:
        if divisor == 1:
            return equation
        divisor = greatest_divisor(part, divisor)
    if divisor == 0:
        return equation
    return [part // divisor for part in equation]


def without(number, equation, known):
    if equation[number] == 0:
        return equation
    divisor = greatest_divisor(equation[number], known[number])
    keep = known[number] // divisor
    take = equation[number] // divisor
    return lowest([keep * one - take * other for one, other in zip(equation, known)])


def times_named(number, equations):
    return len([1 for equation in equations if equation[number] != 0])


def least_named(equation, others):
    numbers = [number for number in range(len(equation) - 1) if equation[number] != 0]
    # An equation for each unknown, and one of them that tells of none: none or many lists fulfil them.
    if numbers == []:
        raise Loose("the rows are not fulfilled by just one list")
    return min(numbers, key=lambda number: times_named(number, others))


def unfolded(equations):
    # Short equations and seldom named unknowns go first, so that few others are touched.
    found = []
    left = equations
    while left != []:
        left = sorted(left, key=lambda equation: -equation.count(0))
        first = left[0]
        number = least_named(first, left[1:])
        left = [without(number, equation, first) for equation in left[1:]]
        found.append((number, first))
    return found


def value_of(number, equation, values):
    top = equation[-1]
    bottom = 1
    for other, value in values.items():
        if equation[other] != 0:
            joint = least_multiple(bottom, value[1])
            top = top * (joint // bottom) - equation[other] * value[0] * (joint // value[1])
            bottom = joint
    return fraction(top, bottom * equation[number])


def solved(rows):
    equations = [equation_of(number, row, len(rows)) for number, row in enumerate(rows)]
    # The last one names one unknown alone, and each one ahead only those behind it besides its own.
    values = {}
    for number, equation in reversed(unfolded(equations)):
        values[number] = value_of(number, equation, values)
    return [values[number] for number in range(len(rows))]
