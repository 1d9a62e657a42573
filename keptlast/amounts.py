"""Exact numbers."""

from math import gcd

from keptlast.errors import DividedByZero, InvalidAmount, InvalidCount, InvalidText
from keptlast.kinds import is_count, is_whole

DIGITS = "0123456789"
# Python itself refuses to read and to write numbers of more than 4,300 digits.
MOST_DIGITS = 4000
MOST_POWER = 12
MOST_PLACES = 12


class Amount:
    """A rational number: a top and a bottom in lowest terms, the bottom being at least 1."""

    def __init__(self, top, bottom=1):
        if not is_whole(top):
            raise InvalidAmount(top)
        if not is_whole(bottom) or bottom == 0:
            raise InvalidAmount(bottom)
        shared = gcd(top, bottom)
        if bottom < 0:
            shared = -shared
        self._top = top // shared
        self._bottom = bottom // shared

    @staticmethod
    def of(number):
        """A NUMBER as an Amount."""
        if isinstance(number, Amount):
            return number
        return Amount(number)

    @staticmethod
    def read(text):
        """The Amount with this text."""
        if not isinstance(text, str):
            raise InvalidText(1)
        top, slash, bottom = text.partition("/")
        if slash == "":
            bottom = "1"
        if not _are_digits(top.removeprefix("-")) or not _are_digits(bottom) or int(bottom) == 0:
            raise InvalidText(1)
        amount = Amount(int(top), int(bottom))
        # What is not in lowest terms or has unnecessary signs is no text of an Amount.
        if str(amount) != text:
            raise InvalidText(1)
        return amount

    @property
    def top(self):
        """The top in lowest terms."""
        return self._top

    @property
    def bottom(self):
        """The bottom in lowest terms, at least 1."""
        return self._bottom

    @property
    def sign(self):
        """Whether the Amount is below, at or above 0: -1, 0 or 1."""
        if self._top < 0:
            return -1
        return 1 if self._top > 0 else 0

    def __add__(self, other):
        number = Amount.of(other)
        return Amount(self._top * number.bottom + number.top * self._bottom, self._bottom * number.bottom)

    def __radd__(self, other):
        return Amount.of(other) + self

    def __sub__(self, other):
        return self + -Amount.of(other)

    def __rsub__(self, other):
        return Amount.of(other) - self

    def __mul__(self, other):
        number = Amount.of(other)
        return Amount(self._top * number.top, self._bottom * number.bottom)

    def __rmul__(self, other):
        return Amount.of(other) * self

    def over(self, other):
        """The quotient of this Amount and a NUMBER."""
        number = Amount.of(other)
        if number.top == 0:
            raise DividedByZero(None)
        return Amount(self._top * number.bottom, self._bottom * number.top)

    def __floordiv__(self, other):
        quotient = self.over(other)
        return quotient.top // quotient.bottom

    def __rfloordiv__(self, other):
        return Amount.of(other) // self

    def __mod__(self, other):
        number = Amount.of(other)
        return self - number * (self // number)

    def __rmod__(self, other):
        return Amount.of(other) % self

    def __pow__(self, other):
        if not is_count(other) or other > MOST_POWER:
            raise InvalidAmount(other)
        result = Amount(1)
        for _ in range(other):
            result = result * self
        return result

    def __neg__(self):
        return Amount(-self._top, self._bottom)

    def __abs__(self):
        return Amount(abs(self._top), self._bottom)

    def __bool__(self):
        return bool(self._top != 0)

    def __eq__(self, other):
        return isinstance(other, Amount) and self._top == other._top and self._bottom == other._bottom

    def __lt__(self, other):
        return (self - other).sign < 0

    def __le__(self, other):
        return (self - other).sign <= 0

    def __gt__(self, other):
        return (self - other).sign > 0

    def __ge__(self, other):
        return (self - other).sign >= 0

    def __str__(self):
        if self._bottom == 1:
            return str(self._top)
        return f"{self._top}/{self._bottom}"

    def __repr__(self):
        return f"Amount({self._top}, {self._bottom})"

    def rounded(self, places):
        """The greatest decimal number with so many places that is at most this Amount, as a string."""
        if not is_count(places) or places > MOST_PLACES:
            raise InvalidCount(places)
        scale = 1
        for _ in range(places):
            scale = scale * 10
        steps = self._top * scale // self._bottom
        sign = "-" if steps < 0 else ""
        digits = str(abs(steps)).zfill(places + 1)
        if places == 0:
            return f"{sign}{digits}"
        point = len(digits) - places
        return f"{sign}{digits[:point]}.{digits[point:]}"


def is_number(value):
    """Whether a value is a NUMBER."""
    return isinstance(value, Amount) or is_whole(value)


def _are_digits(text):
    """Whether a text consists of digits, no more of them than Python reads."""
    return 1 <= len(text) <= MOST_DIGITS and all([sign in DIGITS for sign in text])
