"""Strokes: ways from corner to corner, dabs on them, the tip that spreads a dab, and the shade behind a dab."""

from glazehall.errors import NoTip
from glazehall.fractions import less, made
from glazehall.manners import weakened
from glazehall.wholes import is_sixteenth


def nearer(now, goal):
    if now < goal:
        return now + 1
    if now > goal:
        return now - 1
    return now


# The cells come to, without the one from which the steps go.
def steps(start, corner):
    x = start[0]
    y = start[1]
    cells = []
    while x != corner[0] or y != corner[1]:
        x = nearer(x, corner[0])
        y = nearer(y, corner[1])
        cells.append((x, y))
    return cells


def way(corners):
    cells = [corners[0]]
    for corner in corners[1:]:
        cells.extend(steps(cells[-1], corner))
    return cells


def dabs(cells, every, carry=0):
    dabbed = [cell for number, cell in enumerate(cells, start=carry) if number % every == 0]
    return (dabbed, (carry + len(cells)) % every)


def is_row_of_weights(row, many):
    return isinstance(row, (list, tuple)) and len(row) == many and all([is_sixteenth(weight) for weight in row])


def is_square_of_weights(rows):
    if not isinstance(rows, (list, tuple)) or len(rows) not in (1, 3, 5):
        return False
    return all([is_row_of_weights(row, len(rows)) for row in rows])


class Tip:
    def __init__(self, rows):
        if not is_square_of_weights(rows):
            raise NoTip("a tip is a square of 1, 3 or 5 rows of sixteenths")
        self.weights = [list(row) for row in rows]

    def spread(self, cell):
        left = cell[0] - len(self.weights) // 2
        above = cell[1] - len(self.weights) // 2
        beneath = []
        for y, row in enumerate(self.weights, start=above):
            for x, weight in enumerate(row, start=left):
                if weight > 0:
                    beneath.append(((x, y), weight))
        return beneath


def thicker(old, source, weight):
    dab = weakened(source, made(weight, 16))
    return dab if less(old[1], dab[1]) else old
