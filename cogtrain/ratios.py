"""Exact fractions, as tuples (top, bottom): the bottom 1 or more, nothing but 1 dividing the two."""


def greatest_divisor(one, other):
    # A loop, not a recursion: great numbers need more steps than calls may stand in one another.
    divisor = abs(one)
    rest = abs(other)
    while rest != 0:
        left_over = divisor % rest
        divisor = rest
        rest = left_over
    return divisor


def lowest(top, bottom):
    divisor = greatest_divisor(top, bottom)
    # The top alone bears the minus; otherwise one worth would have two fractions.
    if bottom < 0:
        divisor = -divisor
    return (top // divisor, bottom // divisor)


def times(one, other):
    return lowest(one[0] * other[0], one[1] * other[1])
