"""Amounts: exact pairs (num, den) in lowest terms, den from 1 on."""

NOUGHT = (0, 1)


def common_divisor(one, other):
    """The greatest number that divides both, neither below nought, not both nought."""
    while other:
        one, other = other, one % other
    return one


def amount(num, den):
    """The amount of num by den, numbers of either sign, den not 0."""
    if den < 0:
        num, den = -num, -den
    shared = common_divisor(abs(num), den)
    return (num // shared, den // shared)


def plus(one, other):
    return amount(one[0] * other[1] + other[0] * one[1], one[1] * other[1])


def minus(one, other):
    return amount(one[0] * other[1] - other[0] * one[1], one[1] * other[1])


def times(one, other):
    return amount(one[0] * other[0], one[1] * other[1])


def over(one, other):
    """One by other, where other is not nought."""
    return amount(one[0] * other[1], one[1] * other[0])


def below(one, other):
    # No den is below 1, so multiplying by both keeps the order.
    return one[0] * other[1] < other[0] * one[1]


def lesser(one, other):
    return one if below(one, other) else other


def shown(one):
    """The amount as it is written: `7/2`, `-3`."""
    num, den = one
    if den == 1:
        return str(num)
    return f"{num}/{den}"
