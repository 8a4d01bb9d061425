"""Which duties of a safe plan are needless."""

from openchange.errors import BadSpare
from openchange.forms import is_flat
from openchange.judging import Safe, Wrong, judge


class Spares:
    """The pairs of a version and a duty without which a plan is safe, and the others."""

    def __init__(self, spare, needed):
        self.spare = {pair: spare[pair] for pair in spare}
        self.needed = {pair: needed[pair] for pair in needed}

    def __eq__(self, other):
        return isinstance(other, Spares) and self.spare == other.spare and self.needed == other.needed

    def shows(self, plan, lag):
        """Whether these are the spare and the needed pairs of a plan."""
        check_safe(plan, lag)
        pairs = inner_pairs(plan)
        told = [*self.spare, *self.needed]
        # True, which equals 1, is no version.
        if len(told) != len(pairs) or not all([is_flat(pair) for pair in told]):
            return False
        return all([self._shows_pair(plan, lag, pair) for pair in pairs])

    def _shows_pair(self, plan, lag, pair):
        leaner = without(plan, pair)
        if pair in self.spare:
            paper = self.spare[pair]
            return isinstance(paper, Safe) and paper.shows(leaner, lag)
        paper = self.needed.get(pair)
        return isinstance(paper, Wrong) and paper.shows(leaner, lag)


def check_safe(plan, lag):
    """Raises BadSpare if a plan is not safe for a lag."""
    told = judge(plan, lag)
    if not told:
        raise BadSpare(told)


def inner_pairs(plan):
    """The pairs of a version, neither the first nor the last one, and a duty of it, ascending."""
    return [(version, duty) for version in range(1, plan.last()) for duty in plan.sets[version]]


def without(plan, pair):
    """The plan in which one version lacks one duty."""
    version, spared = pair
    sets = list(plan.sets)
    sets[version] = tuple([duty for duty in sets[version] if duty != spared])
    return plan.like(sets, plan.job, plan.at)


def spares(plan, lag):
    """The Spares of a safe plan."""
    check_safe(plan, lag)
    spare = {}
    needed = {}
    for pair in inner_pairs(plan):
        told = judge(without(plan, pair), lag)
        if told:
            spare[pair] = told
        else:
            needed[pair] = told
    return Spares(spare, needed)


def leanest(plan, lag):
    """The plan that is left if each duty goes, one behind the other, without which it is safe."""
    check_safe(plan, lag)
    lean = plan
    for pair in inner_pairs(plan):
        leaner = without(lean, pair)
        if judge(leaner, lag):
            lean = leaner
    return lean


def is_leanest(plan, lag):
    """Whether a plan is safe, and no duty can go without its being so."""
    if not judge(plan, lag):
        return False
    for pair in inner_pairs(plan):
        if judge(without(plan, pair), lag):
            return False
    return True
