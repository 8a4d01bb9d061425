"""Leases: by which terms no version is used when one is told that is more than the lag newer."""

from math import gcd

from openchange.changeerrors import BadTerms
from openchange.forms import is_integer, is_pair
from openchange.plans import MOST_LAG, check_lag

MOST_TERM = 1000000
MOST_BELOW = 1000


class Terms:
    """How long leases last, how late answers come, how long the teller waits, how wrong clocks go."""

    def __init__(self, length, delay, wait, drift):
        if not _is_term(length, 1):
            raise BadTerms("length")
        if not _is_term(delay, 0):
            raise BadTerms("delay")
        if not _is_term(wait, 1):
            raise BadTerms("wait")
        if not _is_fraction(drift) or not drift[0] < drift[1] <= MOST_BELOW:
            raise BadTerms("drift")
        self.length = length
        self.delay = delay
        self.wait = wait
        self.drift = drift

    def __eq__(self, other):
        return (isinstance(other, Terms) and self.length == other.length and self.delay == other.delay
                and self.wait == other.wait and self.drift == other.drift)


class Enough:
    """The time by which the waits are longer than a version can be used behind its answer."""

    def __init__(self, margin):
        self.margin = margin

    def __eq__(self, other):
        return isinstance(other, Enough) and self.margin == other.margin

    def __bool__(self):
        return True

    def shows(self, terms, lag):
        """Whether by these terms it is enough for a lag, by this margin."""
        check_lag(lag)
        if not _is_fraction(self.margin):
            return False
        return _plus(self.margin, _longest_use(terms)) == _least_gap(terms, lag)


class TooShort:
    """Tellings, and an answer that is used when too new a version is told."""

    def __init__(self, tells, made, came, used):
        self.tells = tuple(tells)
        self.made = made
        self.came = came
        self.used = used

    def __eq__(self, other):
        return (isinstance(other, TooShort) and self.tells == other.tells and self.made == other.made
                and self.came == other.came and self.used == other.used)

    def __bool__(self):
        return False

    def shows(self, terms, lag):
        """Whether all this can be by these terms, and shows that it is not enough for a lag."""
        check_lag(lag)
        if not all([_is_fraction(time) for time in [*self.tells, self.made, self.came, self.used]]):
            return False
        if not self._can_be_told(terms) or not self._can_be_used(terms):
            return False
        at_making = self._newest(self.made)
        return at_making >= 0 and self._newest(self.used) - at_making > lag

    def _can_be_told(self, terms):
        gap = _least_gap(terms, 1)
        return all([not _is_less(time, _plus(ahead, gap)) for ahead, time in zip(self.tells, self.tells[1:])])

    def _can_be_used(self, terms):
        if _is_less(self.came, self.made) or _is_less(_plus(self.made, (terms.delay, 1)), self.came):
            return False
        return not _is_less(self.used, self.came) and _is_less(self.used, _plus(self.came, _longest_lease(terms)))

    def _newest(self, time):
        """The newest version that is told at a time, -1 if none is."""
        return len([told for told in self.tells if not _is_less(time, told)]) - 1


def judge_terms(terms, lag):
    """An Enough if no version is used when one is told that is more than a lag newer, otherwise a TooShort."""
    check_lag(lag)
    use, gap = _longest_use(terms), _least_gap(terms, lag)
    if not _is_less(gap, use):
        return Enough(_minus(gap, use))
    return _too_short(terms, lag)


def _too_short(terms, lag):
    """A TooShort of terms by which it is not enough."""
    tells = [_fraction_of(0, 1)] + [_least_gap(terms, many) for many in range(1, lag + 2)]
    use = _longest_use(terms)
    # Made later than this, and ahead of the second telling, the answer can be used behind the last one.
    early = _minus(tells[-1], use) if _is_less(use, tells[-1]) else tells[0]
    made = _middle(early, tells[1])
    came = _plus(made, (terms.delay, 1))
    used = _middle(tells[-1] if _is_less(came, tells[-1]) else came, _plus(made, use))
    return TooShort(tells, made, came, used)


def least_wait(length, delay, drift, lag):
    """The least wait with which it is enough for a lag."""
    check_lag(lag)
    terms = Terms(length, delay, 1, drift)
    use, gap = _longest_use(terms), _least_gap(terms, lag)
    # The gaps grow as the wait does: so many gaps of the wait 1 are as long as the use, rounded up.
    above, below = use[0] * gap[1], use[1] * gap[0]
    return (above + below - 1) // below


def least_lag(terms):
    """The least lag for which it is enough, None if there is none."""
    for lag in range(1, MOST_LAG + 1):
        if judge_terms(terms, lag):
            return lag
    return None


def _least_gap(terms, many):
    """The least true time from one telling to the one that is so many behind it."""
    above, below = terms.drift
    return _fraction_of(many * terms.wait * below, below + above)


def _longest_lease(terms):
    """The true time by which a lease has surely ended."""
    above, below = terms.drift
    return _fraction_of(terms.length * below, below - above)


def _longest_use(terms):
    """The true time behind the making of an answer by which its lease has surely ended."""
    return _plus((terms.delay, 1), _longest_lease(terms))


def _is_term(value, least):
    """Whether a value is an integer from a least one to the greatest one of terms."""
    return is_integer(value) and least <= value <= MOST_TERM


def _is_fraction(value):
    """Whether a value is a fraction: a pair in lowest terms, from 0 on."""
    if not is_pair(value) or not is_integer(value[0]) or not is_integer(value[1]):
        return False
    return value[0] >= 0 and value[1] >= 1 and gcd(value[0], value[1]) == 1


def _fraction_of(above, below):
    """The fraction in lowest terms."""
    shared = gcd(above, below)
    return (above // shared, below // shared)


def _plus(one, other):
    return _fraction_of(one[0] * other[1] + other[0] * one[1], one[1] * other[1])


def _minus(one, other):
    return _fraction_of(one[0] * other[1] - other[0] * one[1], one[1] * other[1])


def _middle(one, other):
    """The time in the middle between two."""
    above, below = _plus(one, other)
    return _fraction_of(above, 2 * below)


def _is_less(one, other):
    return one[0] * other[1] < other[0] * one[1]
