"""What several tests need: values and rules as Python's own Fractions, some of each, and what telling them asks for.

The sums here are written down once more from the document, over Python's own Fraction, and draw on nothing of the
program: so a fault of the program doesn't hide in its own test.
"""

from fractions import Fraction
from math import gcd

FORTY = 10 ** 40 - 1
TINY = Fraction(1, FORTY)
GROUNDS = ((0, 0), (0, 1), (1, 1))
WORDS = ("over", "under", "screen", "times", "atop")


def pair(number):
    exact = Fraction(number)
    return (exact.numerator, exact.denominator)


def pairs(numbers):
    return tuple(pair(number) for number in numbers)


def exact(told):
    return tuple(Fraction(top, bottom) for top, bottom in told)


def check_fractions(case, told, many):
    """That something told is a tuple of so many fractions, each in lowest terms."""
    case.assertIs(type(told), tuple)
    case.assertEqual(len(told), many)
    for part in told:
        case.assertIs(type(part), tuple)
        case.assertEqual([type(number) for number in part], [int, int])
        case.assertGreaterEqual(part[1], 1)
        case.assertEqual(gcd(part[0], part[1]), 1)


def check_told(case, told, wanted):
    check_fractions(case, told, len(wanted))
    case.assertEqual(told, pairs(wanted))


def check_refused(case, refusal, deed, *things):
    with case.assertRaises(refusal) as taken:
        deed(*things)
    case.assertIs(type(taken.exception), refusal)


def lay(rule, value):
    g, p, a, q, b = rule
    c, t = value
    return (g * c + p * t + a, q * t + b)


def mix(old, new, share):
    return tuple((1 - share) * one + share * other for one, other in zip(old, new))


def is_shade(value):
    return 0 <= value[0] <= value[1] <= 1


def manner_rule(word, s, u):
    return {
        "over": lambda: (1 - u, 0, s, 1 - u, u),
        "under": lambda: (1, -s, s, 1 - u, u),
        "screen": lambda: (1 - s, 0, s, 1 - u, u),
        "times": lambda: (1 - u + s, -s, s, 1 - u, u),
        "atop": lambda: (1 - u, s, 0, 1, 0),
    }[word]()


def sources():
    """Shades as Fractions: the edges, all eighths, and some of other bottoms, of 40 figures too."""
    eighths = [(Fraction(s, 8), Fraction(u, 8)) for u in range(9) for s in range(u + 1)]
    others = [
        (Fraction(1, 3), Fraction(1, 2)), (Fraction(2, 7), Fraction(2, 7)), (Fraction(5, 256), Fraction(251, 256)),
        (TINY, TINY), (0, TINY), (TINY, 1), (1 - TINY, 1), (1 - TINY, 1 - TINY),
        (Fraction(10 ** 39, FORTY), Fraction(7 * 10 ** 39 + 3, FORTY)),
    ]
    return eighths + others


def values():
    """Values as Fractions: the grounds, shades, and values that are no shades."""
    shades = [(Fraction(1, 3), Fraction(1, 2)), (Fraction(1, 16), Fraction(15, 16)), (TINY, 1 - TINY)]
    others = [
        (1, 0), (-1, 0), (0, -1), (Fraction(-5, 3), Fraction(7, 2)), (Fraction(9, 4), Fraction(-1, 6)),
        (FORTY, -FORTY), (Fraction(-FORTY, 10 ** 39 + 7), Fraction(3 ** 83, 2 ** 132)),
    ]
    return list(GROUNDS) + shades + others


def rules():
    """Rules as five Fractions: plain ones, ones that stay and ones that don't, negative ones, ones of 40 figures."""
    half = Fraction(1, 2)
    third = Fraction(1, 3)
    return [
        (1, 0, 0, 1, 0), (0, 0, 0, 0, 0), (0, 0, 1, 0, 1), (2, 3, 5, 7, 11), (-2, 3, -5, 7, -11),
        (0, 1, 0, 1, 0), (1, 1, 1, 1, 1), (1, -1, 1, 0, 1), (half, 0, third, half, half), (-half, third, half, 1, 0),
        (Fraction(3, 4), Fraction(-1, 4), Fraction(1, 4), half, half), (Fraction(5, 16), Fraction(11, 16), 0, 1, 0),
        (1 - third, third, 0, 1, 0), (FORTY, -FORTY, FORTY - 1, 1 - FORTY, 10 ** 39),
        (TINY, 1 - TINY, -TINY, 1 + TINY, TINY - 1),
        (Fraction(FORTY, 10 ** 39 + 7), Fraction(-3 ** 83, 2 ** 132), TINY, Fraction(2 ** 132, 3 ** 83), Fraction(-7, 9)),
    ]


def shares():
    """Fractions to mix by: nought, one, between, and beyond."""
    return [0, 1, Fraction(1, 2), Fraction(1, 3), Fraction(15, 16), TINY, 1 - TINY, -1, 2, Fraction(-7, 5), FORTY]


def rule_by(tell):
    """The only rule that tells, of the three grounds, what the function tells of them."""
    nothing, black, white = [tell(ground) for ground in GROUNDS]
    return (white[0] - black[0], black[0] - nothing[0], nothing[0], black[1] - nothing[1], nothing[1])


def plain_plan(plan, value):
    """What one plan tells of a value, both over Fractions, as points 18 to 20 say it."""
    if plan[0] == "paint":
        m = Fraction(*plan[2])
        s, u = exact(plan[3])
        return lay(manner_rule(plan[1], m * s, m * u), value)
    m = Fraction(*plan[3])
    if plan[0] == "adjust":
        return mix(value, lay((Fraction(plan[1], 16), Fraction(plan[2], 16), 0, 1, 0), value), m)
    if plan[2]:
        return mix(value, plain_row(plan[4], value), m)
    s, u = plain_row(plan[4], (0, 0))
    return lay(manner_rule(plan[1], m * s, m * u), value)


def plain_row(plans, value):
    for plan in plans:
        value = plain_plan(plan, value)
    return value


def plain_rule(plans):
    return rule_by(lambda ground: plain_row(plans, ground))


def some_share(chance):
    return pair(chance.choice((0, 1, Fraction(chance.randrange(257), 256), Fraction(chance.randrange(257), 256))))


def some_shade(chance):
    thickness = chance.randrange(17)
    return pairs((Fraction(chance.randrange(thickness + 1), 16), Fraction(thickness, 16)))


def some_plan(chance, depth):
    kind = chance.choice(("paint", "paint", "adjust", "group", "group") if depth else ("paint", "paint", "adjust"))
    if kind == "paint":
        return ("paint", chance.choice(WORDS), some_share(chance), some_shade(chance))
    if kind == "adjust":
        gain = chance.randrange(17)
        return ("adjust", gain, chance.randrange(17 - gain), some_share(chance))
    plans = tuple(some_plan(chance, depth - 1) for number in range(chance.randrange(4)))
    return ("group", chance.choice(WORDS), chance.choice((True, False)), some_share(chance), plans)


def sign(number):
    return (number > 0) - (number < 0)


def plain_way(corners):
    """By each step's number: so far across, and so far down, as the way to the next corner has."""
    cells = [corners[0]]
    for (x, y), (far, low) in zip(corners, corners[1:]):
        across, down = far - x, low - y
        for step in range(1, max(abs(across), abs(down)) + 1):
            cells.append((x + sign(across) * min(step, abs(across)), y + sign(down) * min(step, abs(down))))
    return cells


def plain_dabs(cells, every, carry):
    """Cell by cell, with a count that goes round."""
    found = []
    for cell in cells:
        if carry == 0:
            found.append(cell)
        carry = 0 if carry == every - 1 else carry + 1
    return (found, carry)


def inside(cell, stretch):
    x, y, wide, high = stretch
    return x <= cell[0] <= x + wide - 1 and y <= cell[1] <= y + high - 1


def plain_moved(cells, size, stretch, across, down):
    """Cell by cell of the picture: what it has behind the move, asked of the cell that comes to it, if one does."""
    whole = (0, 0) + size
    found = {}
    for y in range(size[1]):
        for x in range(size[0]):
            ahead = (x - across, y - down)
            if inside(ahead, stretch) and inside(ahead, whole):
                comes = ahead
            elif inside((x, y), stretch):
                continue
            else:
                comes = (x, y)
            if comes in cells:
                found[(x, y)] = cells[comes]
    return found
