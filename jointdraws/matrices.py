"""Matrices of two who choose without knowing each other's choice: the one a row, the other one a column.

The number there is what the one gets, who wants much; the other one wants it to be little. Both may choose by
chances. The value is what the one can make sure of in the mean, and what the other one can keep it to.
"""

from math import lcm

from jointdraws.ratios import Ratio


def solved(matrix):
    """Return the value of a matrix, the chances of the rows and those of the columns by which both come to it."""
    scale = 1
    for numbers in matrix:
        for number in numbers:
            scale = lcm(scale, number.bottom)
    whole = [[part.top * (scale // part.bottom) for part in row] for row in matrix]
    lows = [min(row) for row in whole]
    highs = [max(column) for column in zip(*whole)]
    if max(lows) < min(highs):
        value, rows, columns = _mixed(whole)
        return value.over(scale), rows, columns
    return Ratio(max(lows), scale), _sure(lows, max(lows)), _sure(highs, min(highs))


def _sure(numbers, best):
    """Return the chances by which the first one of some choices is taken that has the best number."""
    place = numbers.index(best)
    return [Ratio(1 if at == place else 0) for at in range(len(numbers))]


def _mixed(whole):
    """Return the value of a matrix of integers, and the chances of its rows and columns.

    With all numbers above 0, the columns seek weights with the greatest sum by which no row comes above 1. This
    is done by the simplex method: the lines are kept as integers, multiplied by one number, the size. The weights
    of the rows stand in the last line, below the columns that stand for what the rows fall short of 1.
    """
    raised = 1 - min([min(row) for row in whole])
    many = len(whole[0])
    lines = _first_lines([[number + raised for number in row] for row in whole])
    basis = [many + at for at in range(len(whole))]
    size = 1
    column = _next_column(lines[-1])
    while column is not None:
        place = _next_place(lines, basis, column)
        lines, size = _turned(lines, place, column, size), lines[place][column]
        basis[place] = column
        column = _next_column(lines[-1])
    weights = [0] * (many + len(whole))
    for at, taken in enumerate(basis):
        weights[taken] = lines[at][-1]
    whole_sum = lines[-1][-1]
    rows = [Ratio(number, whole_sum) for number in lines[-1][many:-1]]
    columns = [Ratio(number, whole_sum) for number in weights[:many]]
    return Ratio(size, whole_sum) - raised, rows, columns


def _first_lines(whole):
    """Return the lines that it begins with: one for each row, and the one for the sum of the weights."""
    lines = []
    for at, row in enumerate(whole):
        lines.append(row + [1 if other == at else 0 for other in range(len(whole))] + [1])
    lines.append([-1] * len(whole[0]) + [0] * (len(whole) + 1))
    return lines


def _next_column(line):
    """Return the first column by which the sum grows, None if there is none."""
    for column, number in enumerate(line[:-1]):
        if number < 0:
            return column
    return None


def _next_place(lines, basis, column):
    """Return the line that is the first one to be used up if a column grows, of several the one of the first column.

    Taking the first column each time, and here as well, it never goes round in a circle.
    """
    best = None
    for place, line in enumerate(lines[:-1]):
        if line[column] > 0:
            if best is None:
                best = place
            else:
                apart = line[-1] * lines[best][column] - lines[best][-1] * line[column]
                if apart < 0 or apart == 0 and basis[place] < basis[best]:
                    best = place
    return best


def _turned(lines, place, column, size):
    """Return the lines in which a column stands for the line at a place, with the new size."""
    pivot = lines[place]
    turned = []
    for at, line in enumerate(lines):
        if at == place:
            turned.append(line)
        else:
            # The old size divides all these numbers: they are determinants of the first lines.
            factor = line[column]
            turned.append([(number * pivot[column] - factor * other) // size for number, other in zip(line, pivot)])
    return turned
