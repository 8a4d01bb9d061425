"""[28] to [30]: terms of leases, and whether they are enough."""

import unittest
from fractions import Fraction
from random import Random

from openchange.changeerrors import BadTerms
from openchange.errors import BadLag
from openchange.leases import Enough, Terms, TooShort, judge_terms, least_lag, least_wait
from openchange.plans import Plan
from tests.test_plans import BAD_LAGS

MOST = 1000000
DRIFTS = ((0, 1), (1, 10), (1, 2), (1, 1000), (3, 7), (999, 1000), (998, 999))


def pair(number):
    number = Fraction(number)
    return (number.numerator, number.denominator)


def bounds(terms):
    """The least true wait, and the greatest true length of a lease."""
    drift = Fraction(*terms.drift)
    return terms.wait / (1 + drift), terms.length / (1 - drift)


def margin(terms, lag):
    wait, length = bounds(terms)
    return lag * wait - (terms.delay + length)


def is_enough(terms, lag):
    return margin(terms, lag) >= 0


def is_so(told, terms, lag):
    """Whether a TooShort can be by some terms, told with fractions of Python's own."""
    wait, length = bounds(terms)
    tells = [Fraction(*time) for time in told.tells]
    made, came, used = [Fraction(*time) for time in (told.made, told.came, told.used)]
    apart = all(later - time >= wait for time, later in zip(tells, tells[1:]))
    known = [number for number, time in enumerate(tells) if time <= made]
    newest = [number for number, time in enumerate(tells) if time <= used]
    return (apart and bool(known) and made <= came <= made + terms.delay and came <= used < came + length
            and newest[-1] - known[-1] > lag)


def some_terms(chance, drifts=DRIFTS):
    most = chance.choice((2, 10, 1000, MOST))
    return Terms(chance.randint(1, most), chance.randint(0, most), chance.randint(1, most), chance.choice(drifts))


class TermsTest(unittest.TestCase):
    def test_attributes(self):
        terms = Terms(10, 2, 12, (1, 10))
        self.assertEqual((terms.length, terms.delay, terms.wait, terms.drift), (10, 2, 12, (1, 10)))
        named = Terms(drift=(1, 10), wait=12, delay=2, length=10)
        self.assertTrue(terms == named)
        self.assertFalse(terms != named)

    def test_equality(self):
        terms = Terms(10, 2, 12, (1, 10))
        for other in (Terms(11, 2, 12, (1, 10)), Terms(10, 3, 12, (1, 10)), Terms(10, 2, 13, (1, 10)),
                      Terms(10, 2, 12, (1, 9)), (10, 2, 12, (1, 10)), None, Plan("column", [()])):
            self.assertFalse(terms == other)

    def test_bounds(self):
        for told in ((1, 0, 1, (0, 1)), (MOST, MOST, MOST, (999, 1000)), (1, 0, 1, (1, 1000))):
            terms = Terms(*told)
            self.assertEqual((terms.length, terms.delay, terms.wait, terms.drift), told)

    def expect(self, part, *told):
        with self.assertRaises(BadTerms) as caught:
            Terms(*told)
        self.assertEqual(caught.exception.part, part, told)

    def test_bad_numbers(self):
        for value in (-1, MOST + 1, True, False, None, "1", 1.0, (1, 1), [1]):
            self.expect("length", value, 2, 12, (1, 10))
            self.expect("delay", 10, value, 12, (1, 10))
            self.expect("wait", 10, 2, value, (1, 10))
        self.expect("length", 0, 2, 12, (1, 10))
        self.expect("wait", 10, 2, 0, (1, 10))

    def test_bad_drifts(self):
        for value in ((2, 20), (0, 2), (1, 1), (2, 1), (11, 10), (1, 1001), (-1, 10), (1, -10), (-1, -10), (1, 0),
                      (0, 0), (0, -1), [1, 10], (1,), (1, 10, 1), 0, 1, None, "01", (True, 10), (0, True), (False, 1),
                      ("0", "1"), (0.0, 1), (1000, 1001)):
            self.expect("drift", 10, 2, 12, value)

    def test_the_first_bad_part_is_told(self):
        self.expect("length", 0, -1, 0, 0)
        self.expect("delay", 1, -1, 0, 0)
        self.expect("wait", 1, 0, 0, 0)
        self.expect("drift", 1, 0, 1, 0)


class JudgeTest(unittest.TestCase):
    def check(self, terms, lag):
        told = judge_terms(terms, lag)
        self.assertIs(told.shows(terms, lag), True)
        self.assertIs(bool(told), is_enough(terms, lag))
        if told:
            self.assertIs(type(told), Enough)
            self.assertEqual(told.margin, pair(margin(terms, lag)))
        else:
            self.assertIs(type(told), TooShort)
            self.assertTrue(is_so(told, terms, lag))
            for time in (*told.tells, told.made, told.came, told.used):
                self.assertEqual(time, pair(Fraction(*time)))
                self.assertTrue(time[0] >= 0 and time[1] >= 1)
        return told

    def test_the_example(self):
        self.assertEqual(self.check(Terms(10, 2, 12, (0, 1)), 1).margin, (0, 1))
        self.assertFalse(self.check(Terms(10, 2, 11, (0, 1)), 1))

    def test_margins(self):
        self.assertEqual(self.check(Terms(10, 2, 13, (0, 1)), 1).margin, (1, 1))
        self.assertEqual(self.check(Terms(10, 2, 4, (0, 1)), 3).margin, (0, 1))
        self.assertFalse(self.check(Terms(10, 2, 3, (0, 1)), 3))
        # 33 at 11 tenths are 30, and 9 at 9 tenths are 10.
        self.assertEqual(self.check(Terms(9, 20, 33, (1, 10)), 1).margin, (0, 1))
        self.assertEqual(self.check(Terms(9, 19, 33, (1, 10)), 1).margin, (1, 1))
        self.assertEqual(self.check(Terms(9, 20, 34, (1, 10)), 1).margin, (10, 11))
        for terms in (Terms(9, 21, 33, (1, 10)), Terms(10, 20, 33, (1, 10)), Terms(9, 20, 32, (1, 10)),
                      Terms(9, 20, 33, (1, 9))):
            self.assertFalse(self.check(terms, 1))

    def test_many_terms(self):
        chance = Random(3)
        told = [0, 0]
        for _ in range(1500):
            told[bool(self.check(some_terms(chance), chance.randint(1, 20)))] += 1
        self.assertGreater(min(told), 200)

    def test_just_enough_and_one_less(self):
        chance = Random(4)
        for _ in range(300):
            terms = some_terms(chance)
            for lag in (1, 2, 20):
                wait = least_wait(terms.length, terms.delay, terms.drift, lag)
                if wait <= MOST:
                    self.assertTrue(self.check(Terms(terms.length, terms.delay, wait, terms.drift), lag))
                if 1 < wait <= MOST + 1:
                    self.assertFalse(self.check(Terms(terms.length, terms.delay, wait - 1, terms.drift), lag))

    def test_answers_that_come_behind_many_tellings(self):
        for delay in (0, 1, 5, 6, 7, 100, MOST):
            for length in (1, 2, 9, MOST):
                for drift in DRIFTS:
                    for lag in (1, 5, 20):
                        self.check(Terms(length, delay, 1, drift), lag)

    def test_bad_lag(self):
        terms = Terms(10, 2, 12, (0, 1))
        for lag in BAD_LAGS:
            for called in (lambda: judge_terms(terms, lag), lambda: Enough((0, 1)).shows(terms, lag),
                           lambda: TooShort((), None, None, None).shows(terms, lag)):
                with self.assertRaises(BadLag) as caught:
                    called()
                self.assertIs(caught.exception.lag, lag)


class PapersTest(unittest.TestCase):
    def test_attributes_and_equality(self):
        times = ((0, 1), (11, 1)), (1, 2), (5, 2), (11, 1)
        told = TooShort([(0, 1), (11, 1)], *times[1:])
        self.assertEqual((told.tells, told.made, told.came, told.used), times)
        self.assertTrue(told == TooShort(*times))
        for at, other in ((0, ((0, 1), (12, 1))), (1, (1, 3)), (2, (7, 2)), (3, (12, 1))):
            changed = list(times)
            changed[at] = other
            self.assertFalse(told == TooShort(*changed))
        self.assertEqual(Enough((3, 2)).margin, (3, 2))
        self.assertTrue(Enough((3, 2)) == Enough((3, 2)))
        self.assertFalse(Enough((3, 2)) == Enough((3, 1)))
        self.assertFalse(Enough((3, 2)) == (3, 2))
        self.assertFalse(told == Enough((3, 2)))
        self.assertFalse(Enough((3, 2)) == told)

    def test_truth(self):
        self.assertIs(bool(Enough((0, 1))), True)
        self.assertIs(bool(TooShort((), (0, 1), (0, 1), (0, 1))), False)

    def test_margins_that_do_not_show(self):
        terms = Terms(9, 20, 34, (1, 10))
        self.assertIs(Enough((10, 11)).shows(terms, 1), True)
        for wrong in ((20, 22), (-10, -11), (10, 12), (0, 1), (9, 11), [10, 11], (10,), (10, 11, 1), 0, None,
                      ("10", "11"), (Fraction(10), 11)):
            self.assertIs(Enough(wrong).shows(terms, 1), False, wrong)
        self.assertIs(Enough((10, 11)).shows(terms, 2), False)
        self.assertIs(Enough((10, 11)).shows(Terms(9, 20, 35, (1, 10)), 1), False)
        self.assertIs(Enough((1, 1)).shows(Terms(9, 19, 33, (1, 10)), 1), True)
        for wrong in ((True, 1), (1, True), (2, 2), (1, 0)):
            self.assertIs(Enough(wrong).shows(Terms(9, 19, 33, (1, 10)), 1), False)

    def test_negative_margins_do_not_show(self):
        terms = Terms(9, 21, 33, (1, 10))
        for wrong in ((-1, 1), (1, -1), (0, 1), (1, 1)):
            self.assertIs(Enough(wrong).shows(terms, 1), False)

    def expect(self, expected, tells, made, came, used, terms=Terms(10, 2, 11, (0, 1)), lag=1):
        told = TooShort(tells, made, came, used)
        self.assertIs(told.shows(terms, lag), expected, (tells, made, came, used))
        self.assertEqual(is_so(told, terms, lag), expected)

    def test_runs_with_one_thing_changed(self):
        tells = ((0, 1), (11, 1), (22, 1))
        self.expect(True, tells, (21, 2), (25, 2), (22, 1))
        self.expect(True, tells + ((40, 1),), (21, 2), (25, 2), (22, 1))
        self.expect(True, ((1, 2), (12, 1), (23, 1)), (23, 2), (27, 2), (23, 1))
        # Told too early, one behind the other.
        self.expect(False, ((0, 1), (10, 1), (22, 1)), (19, 2), (19, 2), (22, 1), Terms(1000, 2, 11, (0, 1)))
        self.expect(False, ((0, 1), (11, 1), (43, 2)), (21, 2), (25, 2), (22, 1))
        self.expect(False, tells + ((32, 1),), (21, 2), (25, 2), (22, 1))
        self.expect(False, tells[::-1], (21, 2), (25, 2), (22, 1))
        self.expect(False, ((0, 1), (0, 1), (22, 1)), (21, 2), (25, 2), (22, 1))
        # Made at the moment of the second telling, or ahead of the first one.
        self.expect(False, tells, (11, 1), (13, 1), (22, 1))
        self.expect(False, ((1, 1), (12, 1), (23, 1)), (1, 2), (1, 1), (10, 1), Terms(1000, 2, 11, (0, 1)))
        self.expect(False, ((1, 1), (12, 1), (23, 1)), (1, 2), (1, 1), (30, 1), Terms(1000, 2, 11, (0, 1)))
        # Come ahead of its making, or too late.
        self.expect(False, tells, (21, 2), (10, 1), (39, 2))
        self.expect(False, tells, (21, 2), (10, 1), (22, 1), Terms(1000, 2, 11, (0, 1)))
        self.expect(True, tells, (21, 2), (21, 2), (22, 1), Terms(12, 2, 11, (0, 1)))
        self.expect(False, tells, (21, 2), (13, 1), (22, 1))
        # Used ahead of its coming, too late, or when nothing too new is told.
        self.expect(False, tells, (21, 2), (25, 2), (45, 2))
        self.expect(True, tells, (21, 2), (25, 2), (89, 4))
        self.expect(False, tells, (21, 2), (25, 2), (87, 4))
        self.expect(False, tells, (21, 2), (85, 2), (22, 1), Terms(100, 40, 11, (0, 1)))
        self.expect(False, tells[:2], (21, 2), (25, 2), (22, 1))

    def test_other_terms_and_lags(self):
        told = judge_terms(Terms(10, 2, 11, (0, 1)), 1)
        self.assertIs(told.shows(Terms(10, 2, 11, (0, 1)), 2), False)
        self.assertIs(told.shows(Terms(10, 2, 12, (0, 1)), 1), False)
        self.assertIs(told.shows(Terms(9, 2, 11, (0, 1)), 1), False)

    def test_drift_both_ways(self):
        # A wait of 11 is at least 10, a length of 9 at most 10.
        terms = Terms(9, 0, 11, (1, 10))
        self.assertIs(bool(judge_terms(terms, 1)), True)
        self.expect(False, ((0, 1), (10, 1), (20, 1)), (99, 10), (99, 10), (199, 10), terms)
        terms = Terms(9, 1, 11, (1, 10))
        self.expect(True, ((0, 1), (10, 1), (20, 1)), (99, 10), (109, 10), (20, 1), terms)
        self.expect(False, ((0, 1), (99, 10), (199, 10)), (98, 10), (54, 5), (199, 10), terms)
        self.expect(False, ((0, 1), (99, 10), (20, 1)), (19, 2), (21, 2), (20, 1), terms)

    def test_what_is_no_fraction_does_not_show(self):
        told = judge_terms(Terms(10, 2, 11, (0, 1)), 1)
        terms = Terms(10, 2, 11, (0, 1))
        tells, made, came, used = told.tells, told.made, told.came, told.used
        self.assertIs(TooShort(tells, made, came, used).shows(terms, 1), True)
        for at, time in enumerate((made, came, used)):
            for wrong in ((2 * time[0], 2 * time[1]), (-time[0], -time[1]), list(time), None, time[0], (0, 0)):
                times = [made, came, used]
                times[at] = wrong
                self.assertIs(TooShort(tells, *times).shows(terms, 1), False)
        self.assertIs(TooShort(((0, 2), *tells[1:]), made, came, used).shows(terms, 1), False)
        self.assertIs(TooShort(((False, 1), *tells[1:]), made, came, used).shows(terms, 1), False)
        self.assertIs(TooShort(((0, -1), *tells[1:]), made, came, used).shows(terms, 1), False)
        self.assertIs(TooShort((*tells, (1, 0)), made, came, used).shows(terms, 1), False)
        self.assertIs(TooShort((*tells, (100, 1)), made, came, used).shows(terms, 1), True)
        self.assertIs(TooShort((), made, came, used).shows(terms, 1), False)


class LeastTest(unittest.TestCase):
    def test_examples(self):
        self.assertEqual(least_wait(10, 2, (1, 10), 1), 15)
        self.assertEqual(least_wait(10, 2, (0, 1), 1), 12)
        self.assertEqual(least_wait(10, 2, (0, 1), 5), 3)
        self.assertEqual(least_wait(1, 0, (0, 1), 20), 1)
        self.assertEqual(least_wait(20, 1, (0, 1), 20), 2)
        self.assertEqual(least_wait(MOST, MOST, (999, 1000), 1), 1001 * 1999 * 1000)

    def test_least_waits(self):
        chance = Random(6)
        above = 0
        for _ in range(1000):
            terms = some_terms(chance)
            lag = chance.randint(1, 20)
            wait = least_wait(terms.length, terms.delay, terms.drift, lag)
            self.assertIs(type(wait), int)
            drift = Fraction(*terms.drift)
            needed = terms.delay + terms.length / (1 - drift)
            self.assertGreaterEqual(lag * wait / (1 + drift), needed)
            self.assertLess(lag * (wait - 1) / (1 + drift), needed)
            self.assertGreaterEqual(wait, 1)
            above += wait > MOST
        self.assertGreater(above, 20)

    def test_least_lags(self):
        chance = Random(7)
        told = {}
        for _ in range(1000):
            terms = some_terms(chance)
            lag = least_lag(terms)
            expected = [lag for lag in range(1, 21) if is_enough(terms, lag)]
            self.assertEqual(lag, expected[0] if expected else None)
            told[lag] = told.get(lag, 0) + 1
        self.assertGreater(len(told), 15)
        self.assertEqual(least_lag(Terms(10, 10, 1, (0, 1))), 20)
        self.assertIsNone(least_lag(Terms(10, 11, 1, (0, 1))))
        self.assertEqual(least_lag(Terms(10, 2, 12, (0, 1))), 1)

    def test_refused(self):
        for lag in BAD_LAGS:
            with self.assertRaises(BadLag) as caught:
                least_wait(0, -1, None, lag)
            self.assertIs(caught.exception.lag, lag)
        for part, told in (("length", (0, -1, None)), ("delay", (1, -1, None)), ("drift", (1, 0, None)),
                           ("drift", (1, 0, (2, 4)))):
            with self.assertRaises(BadTerms) as caught:
                least_wait(*told, 1)
            self.assertEqual(caught.exception.part, part)


if __name__ == "__main__":
    unittest.main()
