import random
import re
import unittest
from fractions import Fraction
from itertools import product

from jointdraws.draws import End
from jointdraws.errors import BadNumber, BadText, ByZero
from jointdraws.ratios import Ratio, as_ratio, greatest, least, read_ratio, total
from tests.samples import assert_raises, fraction, wrong_values

NUMBERS = [0, 1, -1, 2, -3, 7, Ratio(0), Ratio(1), Ratio(-1), Ratio(1, 2), Ratio(-1, 2), Ratio(2, 3), Ratio(-7, 3),
           Ratio(3, 2), Ratio(10 ** 99 + 1, 10 ** 99), Ratio(-1, 10 ** 99), 10 ** 99]
RATIOS = [number for number in NUMBERS if isinstance(number, Ratio)]


def is_ratio_text(text):
    """Whether Python's own fractions write a number in this way."""
    if not re.fullmatch("-?[0-9]+(/[0-9]+)?", text) or re.search("/0+$", text):
        return False
    return str(Fraction(text)) == text


class RatioTest(unittest.TestCase):
    def test_lowest_terms(self):
        for top, bottom, told in [(2, 4, (1, 2)), (-2, 4, (-1, 2)), (2, -4, (-1, 2)), (-2, -4, (1, 2)), (0, 5, (0, 1)),
                                  (0, -5, (0, 1)), (6, 3, (2, 1)), (6, -3, (-2, 1)), (1, 1, (1, 1)), (35, 21, (5, 3))]:
            ratio = Ratio(top, bottom)
            self.assertEqual((ratio.top, ratio.bottom), told)
            self.assertEqual((type(ratio.top), type(ratio.bottom)), (int, int))
        self.assertEqual((Ratio(5).top, Ratio(5).bottom), (5, 1))
        ratio = Ratio(bottom=-6, top=9)
        self.assertEqual((ratio.top, ratio.bottom), (-3, 2))

    def test_by_zero(self):
        for top in (0, 1, -5, 10 ** 99):
            assert_raises(self, ByZero, None, None, lambda: Ratio(top, 0))
            assert_raises(self, ByZero, None, None, lambda: Ratio(top).over(0))
            assert_raises(self, ByZero, None, None, lambda: Ratio(top).over(Ratio(0)))

    def test_operations(self):
        for one in NUMBERS:
            for other in NUMBERS:
                if not isinstance(one, Ratio) and not isinstance(other, Ratio):
                    continue
                left, right = fraction(one), fraction(other)
                for got, told in [(one + other, left + right), (one - other, left - right), (one * other, left * right)]:
                    self.assertIs(type(got), Ratio)
                    self.assertEqual((got.top, got.bottom), (told.numerator, told.denominator))
        for ratio in RATIOS:
            self.assertIs(type(-ratio), Ratio)
            self.assertEqual(fraction(-ratio), -fraction(ratio))

    def test_over_and_below(self):
        for ratio in RATIOS:
            for number in NUMBERS:
                self.assertIs(ratio.below(number), fraction(ratio) < fraction(number))
                self.assertIs(ratio.below(number=number), fraction(ratio) < fraction(number))
                if number != 0:
                    got, told = ratio.over(number=number), fraction(ratio) / fraction(number)
                    self.assertIs(type(got), Ratio)
                    self.assertEqual((got.top, got.bottom), (told.numerator, told.denominator))

    def test_operands_stay(self):
        one, other = Ratio(4, 6), Ratio(-9, 6)
        _ = [one + other, one - other, one * other, -one, one.over(other), one.below(other), one == other, str(one)]
        self.assertEqual([one.text(), other.text()], ["2/3", "-3/2"])

    def test_other_operands_are_refused(self):
        for value in [None, True, "1", [1], (1,), {}, End("a")]:
            for call in [lambda: Ratio(1) + value, lambda: value + Ratio(1), lambda: Ratio(1) - value,
                         lambda: value - Ratio(1), lambda: Ratio(1) * value, lambda: value * Ratio(1)]:
                with self.assertRaises(TypeError):
                    call()

    def test_equality(self):
        for one in NUMBERS:
            for other in NUMBERS:
                self.assertIs(one == other, fraction(one) == fraction(other))
                self.assertIs(one != other, fraction(one) != fraction(other))

    def test_equality_across_classes(self):
        for ratio in [Ratio(0), Ratio(1), Ratio(1, 2)]:
            for value in [None, True, False, "0", "1", "1/2", "", [], [0], [1], (1, 2), {}, {1: 1}, End("a")]:
                self.assertIs(ratio == value, False)
                self.assertIs(value == ratio, False)
                self.assertIs(ratio != value, True)
                self.assertIs(value != ratio, True)
        self.assertEqual([Ratio(1), (Ratio(4, 2), {"a": Ratio(0)})], [1, (2, {"a": 0})])

    def test_texts(self):
        told = {"-2/5": Ratio(4, -10), "3": Ratio(9, 3), "0": Ratio(0, 7), "-1": Ratio(-1), "1/2": Ratio(1, 2),
                "7/3": Ratio(-7, -3), "-10": Ratio(10, -1)}
        for text, ratio in told.items():
            self.assertEqual([ratio.text(), str(ratio), f"{ratio}"], [text, text, text])
        long = Ratio(10 ** 3999, 3)
        self.assertEqual(long.text(), "1" + "0" * 3999 + "/3")


class HelpersTest(unittest.TestCase):
    def test_as_ratio(self):
        for number in NUMBERS:
            got = as_ratio(number)
            self.assertIs(type(got), Ratio)
            self.assertEqual(fraction(got), fraction(number))
        self.assertEqual(as_ratio(value=3).bottom, 1)

    def test_as_ratio_of_other_values(self):
        for value in wrong_values():
            if isinstance(value, (int, Ratio)) and not isinstance(value, bool):
                continue
            assert_raises(self, BadNumber, "given", value, lambda: as_ratio(value))

    def test_read_ratio(self):
        for number in NUMBERS:
            ratio = as_ratio(number)
            got = read_ratio(ratio.text())
            self.assertIs(type(got), Ratio)
            self.assertEqual((got.top, got.bottom), (ratio.top, ratio.bottom))
        self.assertEqual(read_ratio(text="-12/35"), Ratio(-12, 35))
        self.assertEqual(read_ratio("9" * 4000 + "/" + "1" + "0" * 3999), Ratio(10 ** 4000 - 1, 10 ** 3999))

    def test_read_ratio_of_other_texts(self):
        texts = ["", " ", "2/4", "+3", "-0", "03", "-03", "00", "0/5", "0/1", "3/1", "-3/1", "1/0", "0/0", "1/-2",
                 "-1/-2", "1/+2", "1/02", "--1", "-", "/", "1/", "/2", "1/2/3", "1//2", " 1", "1 ", "1 /2", "1/ 2",
                 "1_0", "1.5", "1e3", "0x1", "a", "1a", "\u0661", "\u00b2", "1\n", "\n1", "(1)", "-/2", "-1/", "- 1",
                 "6/3", "10/4", "Ratio(1, 2)", "None", "True", "1,2", "1;2", "-0/3", "+0"]
        for text in texts:
            assert_raises(self, BadText, "given", text, lambda: read_ratio(text))

    def test_read_ratio_of_other_values(self):
        for value in wrong_values():
            assert_raises(self, BadText, "given", value, lambda: read_ratio(value))

    def test_just_the_texts_of_ratios_are_read(self):
        for many in range(6):
            for signs in product("0124-/+", repeat=many):
                text = "".join(signs)
                if is_ratio_text(text):
                    self.assertEqual(read_ratio(text).text(), text)
                else:
                    assert_raises(self, BadText, "given", text, lambda: read_ratio(text))

    def test_total_greatest_least(self):
        chance = random.Random(7)
        for many in range(1, 9):
            numbers = [chance.choice(NUMBERS) for _ in range(many)]
            told = [fraction(number) for number in numbers]
            for given in (numbers, tuple(numbers)):
                for made, expected in [(total, sum(told)), (greatest, max(told)), (least, min(told))]:
                    got = made(given)
                    self.assertIs(type(got), Ratio)
                    self.assertEqual(fraction(got), expected)
                    self.assertEqual(made(numbers=given), got)

    def test_lists_of_integers_and_of_none(self):
        for got, told in [(total([]), 0), (total(()), 0), (total([1, 2]), 3), (greatest([1, 3, 2]), 3), (least([4]), 4),
                          (greatest([-2, -1]), -1), (least([0, Ratio(-1, 9)]), Ratio(-1, 9))]:
            self.assertIs(type(got), Ratio)
            self.assertEqual(got, told)

    def test_lists_stay(self):
        numbers = [3, Ratio(1, 2), 0]
        for made in (total, greatest, least):
            self.assertEqual(made(numbers), made(numbers))
        self.assertEqual(numbers, [3, Ratio(1, 2), 0])
        self.assertEqual([type(number) for number in numbers], [int, Ratio, int])

    def test_fractions_agree(self):
        chance = random.Random(11)
        for _ in range(300):
            a, b, c, d = [chance.randrange(-40, 41) for _ in range(4)]
            if b == 0 or d == 0:
                continue
            left, right = Fraction(a, b), Fraction(c, d)
            self.assertEqual(fraction(Ratio(a, b) + Ratio(c, d)), left + right)
            self.assertEqual(fraction(Ratio(a, b) * Ratio(c, d) - c), left * right - c)
            self.assertEqual(Ratio(a, b).below(Ratio(c, d)), left < right)
            self.assertEqual(Ratio(a, b).text(), str(left))


if __name__ == "__main__":
    unittest.main()
