"""Point 4: spans and moments, with small and with very large numbers."""

import inspect
import operator
import unittest

from strayfiles import times
from strayfiles.statements import Statement
from strayfiles.times import Moment, Span

THIRTY = 123456789012345678901234567890
HUNDRED = 10 ** 100 - 1

NUMBERS = (0, 1, -1, 2, -2, 3, -3, 7, -7, 10, -10, 97, -97,
           THIRTY, -THIRTY, THIRTY + 1, HUNDRED, -HUNDRED, HUNDRED - THIRTY, 10 ** 99, -(10 ** 99))

COMPARISONS = (operator.eq, operator.ne, operator.lt, operator.le, operator.gt, operator.ge)

ORDERS = (operator.lt, operator.le, operator.gt, operator.ge)


class Agreeable:
    """Equal to everything that asks it."""

    def __eq__(self, other):
        return True

    def __ne__(self, other):
        return False


class SpanTestCase(unittest.TestCase):
    def assert_span(self, thing, ticks):
        self.assertIs(type(thing), Span)
        self.assertIs(type(thing.ticks), int)
        self.assertEqual(thing.ticks, ticks)

    def assert_moment(self, thing, at):
        self.assertIs(type(thing), Moment)
        self.assertIs(type(thing.at), int)
        self.assertEqual(thing.at, at)


class TestSpan(SpanTestCase):
    def test_ticks(self):
        for n in NUMBERS:
            self.assert_span(Span(n), n)
            self.assert_span(Span(ticks=n), n)

    def test_sums_and_differences(self):
        for a in NUMBERS:
            for b in NUMBERS:
                one, other = Span(a), Span(b)
                self.assert_span(one + other, a + b)
                self.assert_span(one - other, a - b)
                self.assertEqual((one.ticks, other.ticks), (a, b))

    def test_negatives_and_absolute_values(self):
        for a in NUMBERS:
            span = Span(a)
            self.assert_span(-span, -a)
            self.assert_span(abs(span), abs(a))
            self.assertEqual(span.ticks, a)

    def test_products_from_both_sides(self):
        for a in NUMBERS:
            for n in NUMBERS:
                span = Span(a)
                self.assert_span(span * n, a * n)
                self.assert_span(n * span, a * n)
                self.assertEqual(span.ticks, a)

    def test_quotients_and_remainders(self):
        for a in NUMBERS:
            for b in NUMBERS:
                if b == 0:
                    continue
                one, other = Span(a), Span(b)
                quotient = one // other
                self.assertIs(type(quotient), int)
                self.assertEqual(quotient, a // b)
                self.assert_span(one % other, a % b)
                self.assertEqual((one.ticks, other.ticks), (a, b))

    def test_quotients_go_down_and_remainders_have_the_divisor_sign(self):
        self.assertEqual(Span(7) // Span(2), 3)
        self.assertEqual(Span(-7) // Span(2), -4)
        self.assertEqual(Span(7) // Span(-2), -4)
        self.assert_span(Span(-7) % Span(2), 1)
        self.assert_span(Span(7) % Span(-2), -1)

    def test_a_span_with_itself(self):
        for a in NUMBERS:
            span = Span(a)
            self.assert_span(span + span, 2 * a)
            self.assert_span(span - span, 0)
            if a != 0:
                self.assertEqual(span // span, 1)
                self.assert_span(span % span, 0)
            self.assertEqual(span.ticks, a)

    def test_results_are_new_objects(self):
        span = Span(5)
        for result in (span + Span(0), span - Span(0), span * 1, 1 * span, abs(span),
                       span % Span(9), -Span(-5)):
            self.assertIsNot(result, span)
            result.ticks = 99
            self.assertEqual(span.ticks, 5)

    def test_in_place_signs_leave_the_other_name_alone(self):
        span = also = Span(5)
        span += Span(3)
        self.assertEqual((span.ticks, also.ticks), (8, 5))
        span = also
        span -= Span(3)
        self.assertEqual((span.ticks, also.ticks), (2, 5))
        span = also
        span *= 3
        self.assertEqual((span.ticks, also.ticks), (15, 5))
        span = also
        span += span
        self.assertEqual((span.ticks, also.ticks), (10, 5))
        span = also
        span %= Span(3)
        self.assertEqual((span.ticks, also.ticks), (2, 5))

    def test_all_comparisons(self):
        for a in NUMBERS:
            for b in NUMBERS:
                for compare in COMPARISONS:
                    self.assertIs(compare(Span(a), Span(b)), compare(a, b))

    def test_a_span_compared_with_itself(self):
        for a in NUMBERS:
            span = Span(a)
            for compare in COMPARISONS:
                self.assertIs(compare(span, span), compare(a, a))

    def test_truth(self):
        for a in NUMBERS:
            self.assertIs(bool(Span(a)), a != 0)

    def test_a_span_is_equal_to_nothing_else(self):
        others = (5, "5", "Span(5)", "5 ticks", 5.0, None, True, [5], (5,), {5}, Moment(5),
                  Statement("put"), object(), Span, Agreeable())
        for other in others:
            with self.subTest(other=other):
                self.assertIs(Span(5) == other, False)
                self.assertIs(Span(5) != other, True)
        for other in others[:-1]:
            with self.subTest(other=other):
                self.assertIs(other == Span(5), False)
                self.assertIs(other != Span(5), True)
        self.assertIs(Span(1) == True, False)  # noqa: E712
        self.assertIs(Span(0) == False, False)  # noqa: E712
        self.assertIs(Span(0) == 0, False)

    def test_no_order_with_anything_else(self):
        for other in (5, "5", None, Moment(5), [5]):
            for compare in ORDERS:
                self.assertRaises(TypeError, compare, Span(5), other)
                self.assertRaises(TypeError, compare, other, Span(5))

    def test_wrong_operands(self):
        span = Span(5)
        for other in (5, "5", None, True):
            for act in (operator.add, operator.sub, operator.floordiv, operator.mod):
                self.assertRaises(TypeError, act, span, other)
        for other in (5, None, True):
            for act in (operator.add, operator.sub, operator.floordiv, operator.mod):
                self.assertRaises(TypeError, act, other, span)
        for other in (span, "5", None, Moment(5), True, 2.0, [1]):
            self.assertRaises(TypeError, operator.mul, span, other)
            self.assertRaises(TypeError, operator.mul, other, span)
        for act in (operator.sub, operator.floordiv, operator.mod):
            self.assertRaises(TypeError, act, span, Moment(5))
        self.assertEqual(span.ticks, 5)

    def test_repr(self):
        self.assertEqual(repr(Span(5)), "Span(5)")
        self.assertEqual(repr(Span(0)), "Span(0)")
        self.assertEqual(repr(Span(-12)), "Span(-12)")
        self.assertEqual(repr(Span(HUNDRED)), "Span(" + "9" * 100 + ")")

    def test_str(self):
        self.assertEqual(str(Span(1)), "1 tick")
        self.assertEqual(str(Span(-1)), "-1 ticks")
        self.assertEqual(str(Span(0)), "0 ticks")
        self.assertEqual(str(Span(5)), "5 ticks")
        self.assertEqual(str(Span(-3)), "-3 ticks")
        self.assertEqual(str(Span(11)), "11 ticks")
        self.assertEqual(str(Span(THIRTY)), "123456789012345678901234567890 ticks")
        self.assertEqual(str(Span(-HUNDRED)), "-" + "9" * 100 + " ticks")

    def test_sorting(self):
        spans = sorted([Span(n) for n in NUMBERS])
        self.assertEqual([span.ticks for span in spans], sorted(NUMBERS))


class TestMoment(SpanTestCase):
    def test_at(self):
        for n in NUMBERS:
            self.assert_moment(Moment(n), n)
            self.assert_moment(Moment(at=n), n)

    def test_sums_and_differences(self):
        for a in NUMBERS:
            for b in NUMBERS:
                moment, span, other = Moment(a), Span(b), Moment(b)
                self.assert_moment(moment + span, a + b)
                self.assert_moment(span + moment, a + b)
                self.assert_moment(moment - span, a - b)
                self.assert_span(moment - other, a - b)
                self.assertEqual((moment.at, span.ticks, other.at), (a, b, b))

    def test_a_moment_minus_itself(self):
        moment = Moment(HUNDRED)
        self.assert_span(moment - moment, 0)

    def test_results_are_new_objects(self):
        moment = Moment(5)
        for result in (moment + Span(0), Span(0) + moment, moment - Span(0)):
            self.assertIsNot(result, moment)
            result.at = 99
            self.assertEqual(moment.at, 5)

    def test_in_place_signs_leave_the_other_names_alone(self):
        moment = also = Moment(5)
        span = Span(3)
        moment += span
        self.assertEqual((moment.at, also.at, span.ticks), (8, 5, 3))
        moment = also
        moment -= span
        self.assertEqual((moment.at, also.at, span.ticks), (2, 5, 3))
        same = span
        span += also
        self.assert_moment(span, 8)
        self.assertEqual((same.ticks, also.at), (3, 5))

    def test_all_comparisons(self):
        for a in NUMBERS:
            for b in NUMBERS:
                for compare in COMPARISONS:
                    self.assertIs(compare(Moment(a), Moment(b)), compare(a, b))

    def test_a_moment_is_equal_to_nothing_else(self):
        others = (5, "5", "Moment(5)", "at 5", 5.0, None, True, [5], (5,), {5}, Span(5),
                  Statement("put"), object(), Moment, Agreeable())
        for other in others:
            with self.subTest(other=other):
                self.assertIs(Moment(5) == other, False)
                self.assertIs(Moment(5) != other, True)
        for other in others[:-1]:
            with self.subTest(other=other):
                self.assertIs(other == Moment(5), False)
                self.assertIs(other != Moment(5), True)
        self.assertIs(Moment(1) == True, False)  # noqa: E712

    def test_no_order_with_anything_else(self):
        for other in (5, "5", None, Span(5), [5]):
            for compare in ORDERS:
                self.assertRaises(TypeError, compare, Moment(5), other)
                self.assertRaises(TypeError, compare, other, Moment(5))

    def test_wrong_operands(self):
        moment = Moment(5)
        self.assertRaises(TypeError, operator.add, moment, Moment(1))
        for other in (5, None, True):
            self.assertRaises(TypeError, operator.add, moment, other)
            self.assertRaises(TypeError, operator.add, other, moment)
            self.assertRaises(TypeError, operator.sub, moment, other)
            self.assertRaises(TypeError, operator.sub, other, moment)
        self.assertRaises(TypeError, operator.mul, moment, 2)
        self.assertRaises(TypeError, operator.neg, moment)

    def test_repr_and_str(self):
        self.assertEqual(repr(Moment(5)), "Moment(5)")
        self.assertEqual(repr(Moment(-5)), "Moment(-5)")
        self.assertEqual(str(Moment(5)), "at 5")
        self.assertEqual(str(Moment(0)), "at 0")
        self.assertEqual(str(Moment(-1)), "at -1")
        self.assertEqual(str(Moment(HUNDRED)), "at " + "9" * 100)
        self.assertEqual(repr(Moment(-THIRTY)), "Moment(-123456789012345678901234567890)")

    def test_sorting(self):
        moments = sorted([Moment(n) for n in NUMBERS])
        self.assertEqual([moment.at for moment in moments], sorted(NUMBERS))


class TestInterface(unittest.TestCase):
    def test_parameters(self):
        self.assertEqual(list(inspect.signature(Span).parameters), ["ticks"])
        self.assertEqual(list(inspect.signature(Moment).parameters), ["at"])
        for made in (Span, Moment):
            self.assertRaises(TypeError, made)
            self.assertRaises(TypeError, made, 1, 2)

    def test_where_the_classes_are_defined(self):
        for made in (Span, Moment):
            self.assertEqual(made.__module__, "strayfiles.times")
            self.assertIs(getattr(times, made.__name__), made)

    def test_methods_stand_in_the_classes_themselves(self):
        both = ["init", "repr", "str", "eq", "ne", "lt", "le", "gt", "ge", "add", "sub"]
        spans = both + ["neg", "abs", "mul", "rmul", "floordiv", "mod", "bool"]
        moments = both + ["radd"]
        for made, names in ((Span, spans), (Moment, moments)):
            for name in names:
                self.assertIn(f"__{name}__", vars(made))


if __name__ == "__main__":
    unittest.main()
