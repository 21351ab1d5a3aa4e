"""Exact fractions that are not negative."""

from math import gcd

from forkflags.errors import InvalidShare


class Share:
    """The fraction top / bottom, in lowest terms."""

    def __init__(self, top, bottom=1):
        if top < 0 or bottom < 1:
            raise InvalidShare("a share has a top from 0 on and a bottom from 1 on")
        common = gcd(top, bottom)
        self.top = top // common
        self.bottom = bottom // common

    @staticmethod
    def half_power(k):
        """Return 1/2^k."""
        if k < 0:
            raise InvalidShare("the exponent of a half is not negative")
        return Share(1, 1 << k)

    def __add__(self, other):
        if not isinstance(other, Share):
            return NotImplemented
        return Share(self.top * other.bottom + other.top * self.bottom, self.bottom * other.bottom)

    def __mul__(self, other):
        if not isinstance(other, Share):
            return NotImplemented
        return Share(self.top * other.top, self.bottom * other.bottom)

    def __eq__(self, other):
        return isinstance(other, Share) and self.top == other.top and self.bottom == other.bottom

    def at_most(self, other):
        """Tell whether this share is less than or equal to the other one."""
        return self.top * other.bottom <= other.top * self.bottom

    def __str__(self):
        if self.bottom == 1:
            return str(self.top)
        return f"{self.top}/{self.bottom}"

    def __repr__(self):
        return f"Share({self.top}, {self.bottom})"


def add_shares(*shares):
    """Return the sum of the shares, zero if there are none."""
    total = Share(0)
    for share in shares:
        total = total + share
    return total
