"""Point [11] and the interface section keptlast/amounts.py, held against Python's own fractions."""

import operator
from fractions import Fraction
from itertools import product
from math import floor, gcd

from keptlast.amounts import Amount
from keptlast.errors import DividedByZero, InvalidAmount, InvalidCount, InvalidText
from support import Case, Odd

LONG = 1234567890123456789012345678901234567890
FRACTIONS = [
    Fraction(0), Fraction(1), Fraction(-1), Fraction(2), Fraction(-7, 2), Fraction(7, 2), Fraction(1, 3),
    Fraction(-1, 3), Fraction(10), Fraction(-12), Fraction(LONG), Fraction(-LONG, 7), Fraction(1, LONG),
    Fraction(LONG, 9876543210987654321098765432109876543211),
]
NO_NUMBERS = [
    True, False, None, "1", "", b"1", [], [1], (1,), (), {}, {1: 2}, {1}, object(), Odd(), int, Amount,
]
LEFT_AND_RIGHT = {
    "+": operator.add, "-": operator.sub, "*": operator.mul, "//": operator.floordiv, "%": operator.mod,
    "<": operator.lt, "<=": operator.le, ">": operator.gt, ">=": operator.ge,
}


def amount(fraction):
    return Amount(fraction.numerator, fraction.denominator)


def as_python_tells(value):
    """What a Fraction, an int or a bool is in this package."""
    return amount(value) if isinstance(value, Fraction) else value


class TestParts(Case):
    def test_lowest_terms_with_a_bottom_of_at_least_1(self):
        for top, bottom in product(range(-12, 13), range(-12, 13)):
            if bottom != 0:
                with self.subTest(top=top, bottom=bottom):
                    made = Amount(top, bottom)
                    self.assert_same([made.top, made.bottom], [
                        Fraction(top, bottom).numerator, Fraction(top, bottom).denominator])

    def test_long_parts(self):
        made = Amount(LONG * 6, LONG * -4)
        self.assert_same([made.top, made.bottom], [-3, 2])
        made = Amount(-LONG, -LONG - 1)
        self.assert_same([made.top, made.bottom], [LONG, LONG + 1])
        self.assertEqual(gcd(made.top, made.bottom), 1)

    def test_zero_has_one_form(self):
        self.assert_same([Amount(0, -5).top, Amount(0, -5).bottom], [0, 1])

    def test_bottom_is_1_if_not_passed(self):
        self.assert_same([Amount(-4).top, Amount(-4).bottom], [-4, 1])

    def test_by_names(self):
        self.assertEqual(Amount(bottom=4, top=6), Amount(3, 2))
        self.assertEqual(Amount(top=6), Amount(6, 1))

    def test_sign(self):
        self.assert_same([Amount(-1, 9).sign, Amount(0).sign, Amount(LONG).sign, Amount(3, -2).sign], [-1, 0, 1, -1])

    def test_what_is_no_integer_is_no_part(self):
        for value in NO_NUMBERS + [Amount(1)]:
            with self.subTest(value=value):
                self.assert_raises(InvalidAmount, [value], Amount, value)
                self.assert_raises(InvalidAmount, [value], Amount, value, 0)
                self.assert_raises(InvalidAmount, [value], Amount, value, "no")
                self.assert_raises(InvalidAmount, [value], Amount, 3, value)
                self.assert_raises(InvalidAmount, [value], Amount, bottom=value, top=3)
                self.assert_raises(InvalidAmount, [value], Amount, bottom=0, top=value)

    def test_bottom_0(self):
        self.assert_raises(InvalidAmount, [0], Amount, 1, 0)
        self.assert_raises(InvalidAmount, [0], Amount, 0, 0)

    def test_parts_cannot_be_assigned(self):
        made = Amount(1, 2)
        for name in ["top", "bottom", "sign"]:
            with self.assertRaises(AttributeError):
                setattr(made, name, 5)
        self.assertEqual(made, Amount(1, 2))


class TestOperators(Case):
    def test_two_amounts_and_an_integer_on_either_side(self):
        for one, other in product(FRACTIONS, FRACTIONS):
            for sign, apply in LEFT_AND_RIGHT.items():
                if other == 0 and sign in ("//", "%"):
                    continue
                expected = as_python_tells(apply(one, other))
                with self.subTest(one=one, sign=sign, other=other):
                    self.assert_same(apply(amount(one), amount(other)), expected)
                    if one.denominator == 1:
                        self.assert_same(apply(one.numerator, amount(other)), expected)
                    if other.denominator == 1:
                        self.assert_same(apply(amount(one), other.numerator), expected)

    def test_floor_and_rest_below_0(self):
        self.assert_same([Amount(-7, 2) // 2, Amount(-7, 2) % 2, Amount(7, 2) // -2, Amount(7, 2) % -2],
                         [-2, Amount(1, 2), -2, Amount(-1, 2)])
        self.assert_same([-7 // Amount(2), -7 % Amount(2), 7 % Amount(-2, 3)], [-4, Amount(1), Amount(-1, 3)])

    def test_no_number_on_the_right(self):
        for value in NO_NUMBERS:
            for sign, apply in LEFT_AND_RIGHT.items():
                with self.subTest(sign=sign, value=value):
                    self.assert_raises(InvalidAmount, [value], apply, Amount(1, 2), value)

    def test_no_number_on_the_left(self):
        for value in NO_NUMBERS:
            for sign, apply in LEFT_AND_RIGHT.items():
                # Strings and bytes have a `%` of their own, which comes first.
                if sign != "%" or not isinstance(value, (str, bytes)):
                    with self.subTest(sign=sign, value=value):
                        self.assert_raises(InvalidAmount, [value], apply, value, Amount(1, 2))

    def test_division_by_0(self):
        for one, zero in [(Amount(1), 0), (Amount(1), Amount(0)), (1, Amount(0)), (Amount(0), 0), (0, Amount(0))]:
            for apply in [operator.floordiv, operator.mod]:
                with self.subTest(one=one, zero=zero):
                    self.assert_raises(DividedByZero, [None], apply, one, zero)

    def test_operands_stay_as_they_were(self):
        one, other = Amount(7, 2), Amount(-2, 3)
        for apply in LEFT_AND_RIGHT.values():
            apply(one, other)
        abs(-one.over(other) ** 3)
        self.assertEqual([repr(one), repr(other)], ["Amount(7, 2)", "Amount(-2, 3)"])

    def test_assignments_with_a_sign_leave_the_elder_amount(self):
        steps = {
            "+=": (operator.iadd, Amount(11, 2)), "-=": (operator.isub, Amount(3, 2)),
            "*=": (operator.imul, Amount(7)), "//=": (operator.ifloordiv, 1),
            "%=": (operator.imod, Amount(3, 2)), "**=": (operator.ipow, Amount(49, 4)),
        }
        for sign, (apply, expected) in steps.items():
            with self.subTest(sign=sign):
                elder = Amount(7, 2)
                self.assert_same(apply(elder, 2), expected)
                self.assert_same(elder, Amount(7, 2))
        name = elder = Amount(1)
        name += Amount(1, 2)
        name -= 3
        name *= Amount(5)
        self.assertEqual([name, elder], [Amount(-15, 2), Amount(1)])

    def test_power(self):
        for one in FRACTIONS:
            for power in range(13):
                with self.subTest(one=one, power=power):
                    self.assert_same(amount(one) ** power, amount(one ** power))
        self.assert_same(Amount(0) ** 0, Amount(1))

    def test_what_is_no_power(self):
        for value in NO_NUMBERS + [13, -1, -LONG, LONG, Amount(2)]:
            with self.subTest(value=value):
                self.assert_raises(InvalidAmount, [value], operator.pow, Amount(2), value)

    def test_one_operand(self):
        for one in FRACTIONS:
            self.assert_same([-amount(one), abs(amount(one))], [amount(-one), amount(abs(one))])

    def test_bool(self):
        for one in FRACTIONS:
            self.assert_same(bool(amount(one)), one != 0)


class TestOver(Case):
    def test_quotient(self):
        for one, other in product(FRACTIONS, FRACTIONS):
            if other != 0:
                with self.subTest(one=one, other=other):
                    self.assert_same(amount(one).over(amount(other)), amount(one / other))
                    if other.denominator == 1:
                        self.assert_same(amount(one).over(other=other.numerator), amount(one / other))

    def test_no_number(self):
        for value in NO_NUMBERS:
            with self.subTest(value=value):
                self.assert_raises(InvalidAmount, [value], Amount(1, 2).over, value)
                self.assert_raises(InvalidAmount, [value], Amount(0).over, other=value)

    def test_division_by_0(self):
        for one, zero in product([Amount(3), Amount(0)], [0, Amount(0), Amount(0, -4)]):
            self.assert_raises(DividedByZero, [None], one.over, zero)


class TestEquality(Case):
    def test_amounts_of_the_same_value(self):
        for one, other in product(FRACTIONS, FRACTIONS):
            self.assert_same(amount(one) == amount(other), one == other)
            self.assert_same(amount(one) != amount(other), one != other)
        self.assertTrue(Amount(2, -4) == Amount(-1, 2))
        self.assertFalse(Amount(2, -4) != Amount(-1, 2))

    def test_never_equal_to_another_kind(self):
        for value in NO_NUMBERS + [1, 0]:
            for one in [Amount(1), Amount(0)]:
                with self.subTest(value=value):
                    self.assertIs(one == value, False)
                    self.assertIs(value == one, False)
                    self.assertIs(one != value, True)
                    self.assertIs(value != one, True)


class TestTexts(Case):
    def test_text(self):
        for one in FRACTIONS:
            self.assert_same(str(amount(one)), str(one))
        self.assert_same([str(Amount(-14, 4)), str(Amount(-4, 2)), str(Amount(0, 3))], ["-7/2", "-2", "0"])

    def test_repr(self):
        self.assert_same([repr(Amount(-7, 2)), repr(Amount(14, -4)), repr(Amount(3))],
                         ["Amount(-7, 2)", "Amount(-7, 2)", "Amount(3, 1)"])
        self.assert_same(repr(Amount(LONG, 11)), f"Amount({LONG}, 11)")

    def test_rounded_down(self):
        for one, places in product(FRACTIONS, range(13)):
            with self.subTest(one=one, places=places):
                found = amount(one).rounded(places)
                self.assertEqual(floor(one * 10 ** places), int(found.replace(".", "")))
                self.assertEqual(Fraction(found), Fraction(floor(one * 10 ** places), 10 ** places))
                self.assertEqual(len(found.partition(".")[2]), places)
                self.assertRegex(found, r"\A-?(0|[1-9][0-9]*)(\.[0-9]+)?\Z")

    def test_rounded_as_it_is_written(self):
        cases = [
            (Amount(-1, 3), 2, "-0.34"), (Amount(2), 2, "2.00"), (Amount(3), 0, "3"), (Amount(7, 2), 0, "3"),
            (Amount(-7, 2), 0, "-4"), (Amount(0), 3, "0.000"), (Amount(-1, 1000), 2, "-0.01"), (Amount(1, 3), 0, "0"),
            (Amount(1, 1000), 2, "0.00"), (Amount(-1, 3), 0, "-1"), (Amount(1, 8), 12, "0.125000000000"),
            (Amount(-12, 10), 1, "-1.2"), (Amount(-2), 1, "-2.0"),
        ]
        for one, places, expected in cases:
            with self.subTest(one=one, places=places):
                self.assert_same(one.rounded(places), expected)
                self.assert_same(one.rounded(places=places), expected)

    def test_what_is_no_count_of_places(self):
        for value in NO_NUMBERS + [-1, 13, LONG, Amount(2)]:
            with self.subTest(value=value):
                self.assert_raises(InvalidCount, [value], Amount(1, 3).rounded, value)


class TestOf(Case):
    def test_numbers(self):
        self.assert_same([Amount.of(5), Amount.of(-LONG), Amount.of(0)], [Amount(5), Amount(-LONG), Amount(0)])
        self.assert_same(Amount.of(number=Amount(-7, 2)), Amount(-7, 2))
        self.assert_same(Amount(9).of(1), Amount(1))

    def test_no_numbers(self):
        for value in NO_NUMBERS:
            with self.subTest(value=value):
                self.assert_raises(InvalidAmount, [value], Amount.of, value)


class TestRead(Case):
    def test_read_is_the_inverse_of_str(self):
        for one in FRACTIONS:
            self.assert_same(Amount.read(str(one)), amount(one))
        self.assert_same(Amount.read(text="-7/2"), Amount(-7, 2))

    def test_just_the_texts_of_amounts_are_read(self):
        texts = {str(top) for top in range(-999, 10000)}
        texts |= {str(Fraction(top, bottom)) for top in range(-99, 100) for bottom in range(1, 100)}
        for length in range(5):
            for signs in product("-/012", repeat=length):
                text = "".join(signs)
                with self.subTest(text=text):
                    if text in texts:
                        self.assert_same(Amount.read(text), amount(Fraction(text)))
                    else:
                        self.assert_raises(InvalidText, [1], Amount.read, text)

    def test_wrong_texts(self):
        wrong = [
            "", " ", "-", "+1", " 1", "1 ", "1\n", "\n1", "- 1", "01", "-01", "00", "-0", "1.0", ".5", "1e3", "1_000",
            "2/1", "-2/1", "4/2", "0/1", "0/2", "1/0", "0/0", "1/-2", "-1/-2", "1/02", "1/2/3", "/2", "1/", "1//2",
            "1 /2", "1/ 2", "--1", "one", "x1", "1x", "0x10", "1,000", "0" * 4990, "1" * 4990 + "x",
            f"{LONG}/{LONG}", f"{2 * LONG}/4", "1/2\n",
        ]
        for text in wrong:
            with self.subTest(text=text[:20]):
                self.assert_raises(InvalidText, [1], Amount.read, text)

    def test_no_strings(self):
        for value in [None, True, 1, b"1", ["1"], ("1",), {"1": 1}, Amount(1), Odd()]:
            with self.subTest(value=value):
                self.assert_raises(InvalidText, [1], Amount.read, value)

    def test_very_long_numbers(self):
        digits = "7" * 2000
        self.assertEqual(str(Amount.read(f"-{digits}/2")), f"-{digits}/2")
