"""Whole numbers, also very long ones: what divides them both, and what is left when it is divided out."""

# Up to so many bits the plain way is the quicker one.
SHORT = 4000
SHORT_HALF = 256
SHORT_QUOTIENT = 8000


def common(one, other):
    """The greatest whole number that divides both; 0 where both are 0."""
    one, other = abs(one), abs(other)
    while other.bit_length() > SHORT:
        one, other = other, one % other
        if other.bit_length() > SHORT:
            one, other, factors = half(one, other)
    while other != 0:
        one, other = other, one % other
    return one


def half(one, other):
    """Two numbers with some half of the bits that divide by the same, and the four factors that make them.

    The one is not less than the other, and neither is below 0. The factors (a, b, c, d), for which a * d - b * c
    is 1 or -1, make a * one + b * other and c * one + d * other. They are found by the upper bits of both: so most
    of the steps are made with numbers that are far shorter than these.
    """
    goal = one.bit_length() // 2
    if one.bit_length() <= SHORT_HALF:
        return stepped(one, other, goal)
    one, other, factors = upper_half(one, other, goal)
    # What is left to do, twice as many bits as are above the goal, is taken from the upper bits again.
    shift = 2 * goal - other.bit_length()
    if not 0 < shift < goal:
        return one, other, factors
    one, other, factors = step(one, other, factors)
    one, other, further = upper_half(one, other, shift)
    return one, other, factors_joined(further, factors)


def stepped(one, other, goal):
    """Half, the plain way."""
    factors = (1, 0, 0, 1)
    while other.bit_length() > goal:
        one, other, factors = step(one, other, factors)
    return one, other, factors


def step(one, other, factors):
    """One step of the plain way, and its factors with those ahead of it."""
    by, rest = divmod(one, other)
    a, b, c, d = factors
    return other, rest, (c, d, a - by * c, b - by * d)


def upper_half(one, other, shift):
    """What the factors make of both that are found without so many of their lowest bits."""
    top, other_top, (a, b, c, d) = half(one >> shift, other >> shift)
    low, other_low = one - (one >> shift << shift), other - (other >> shift << shift)
    one = (top << shift) + a * low + b * other_low
    other = (other_top << shift) + c * low + d * other_low
    # The lowest bits may turn a sign, or make the other one the greater.
    if one < 0:
        one, a, b = -one, -a, -b
    if other < 0:
        other, c, d = -other, -c, -d
    return (one, other, (a, b, c, d)) if one >= other else (other, one, (c, d, a, b))


def factors_joined(further, factors):
    """The factors that make at once what these make and then the further ones."""
    a, b, c, d = factors
    e, f, g, h = further
    return (e * a + f * c, e * b + f * d, g * a + h * c, g * b + h * d)


def divided(numbers, by):
    """The whole numbers, each of which the other one divides without a rest, divided by it."""
    if by.bit_length() < SHORT_QUOTIENT:
        return [number // by for number in numbers]
    bits = max([number.bit_length() for number in numbers], default=0) - by.bit_length() + 2
    if bits < SHORT_QUOTIENT:
        return [number // by for number in numbers]
    # Where there is no rest the lowest bits alone tell the quotient, as a product; Python's own division of
    # numbers so long takes many times as long as that.
    shift = (by & -by).bit_length() - 1
    inverse = low_inverse(by >> shift, bits)
    mask = (1 << bits) - 1
    lows = [((number >> shift & mask) * inverse) & mask for number in numbers]
    return [low if low >> (bits - 1) == 0 else low - mask - 1 for low in lows]


def low_inverse(odd, bits):
    """The number whose product with the odd one has 1 as its lowest bits."""
    # Each odd number, times itself, ends with the bits 001; and each further step makes twice as many right.
    inverse, right = odd & 7, 3
    while right < bits:
        right = min(2 * right, bits)
        mask = (1 << right) - 1
        inverse = inverse * (2 - (odd & mask) * inverse) & mask
    return inverse
