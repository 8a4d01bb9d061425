"""All changes from one schema to another, woven into as few versions as can be."""

from openchange.forms import is_integer
from openchange.plans import Plan
from openchange.recipes import recipe
from openchange.schemas import changes, leans_on


class Woven:
    """The number of versions, where each change begins, and a chain of changes by which there cannot be fewer."""

    def __init__(self, length, starts, chain):
        self.length = length
        self.starts = {change: starts[change] for change in starts}
        self.chain = tuple(chain)

    def __eq__(self, other):
        return (isinstance(other, Woven) and self.length == other.length and self.starts == other.starts
                and self.chain == other.chain)

    def shows(self, old, new):
        """Whether these are so many versions of the changes from one schema to another, and cannot be fewer."""
        told = changes(old, new)
        numbers = [self.length, *[self.starts[change] for change in self.starts]]
        if not all([is_integer(number) and number >= 0 for number in numbers]):
            return False
        if len(self.starts) != len(told) or not all([change in self.starts for change in told]):
            return False
        return all([self._is_in_time(change, told) for change in told]) and self._is_barred(told)

    def _is_in_time(self, change, told):
        """Whether a change begins when those on which it leans are through, and is through at last."""
        ends = [self._end(other) for other in told if leans_on(change, other)]
        return all([end <= self.starts[change] for end in ends]) and self._end(change) < self.length

    def _end(self, change):
        """The version in which a change has its last set for the first time."""
        return self.starts[change] + _recipe_of(change).last()

    def _is_barred(self, told):
        """Whether the chain bars fewer versions."""
        if not all([change in told for change in self.chain]):
            return False
        linked = [leans_on(change, ahead) for ahead, change in zip(self.chain, self.chain[1:])]
        return all(linked) and _steps_of(self.chain) == self.length - 1

    def plan(self, change):
        """The plan of one change among all versions."""
        alone = _recipe_of(change)
        start = self.starts[change]
        sets = [alone.sets[max(0, min(version - start, alone.last()))] for version in range(self.length)]
        return Plan(alone.kind, sets, alone.job, start + alone.at if alone.job else 0)

    def duties_at(self, version):
        """A dict from all changes, ascending, to the duties of servers of a version."""
        return {change: self.plan(change).sets[version] for change in sorted(list(self.starts))}


def _recipe_of(change):
    """The plan of a change alone."""
    word, kind, _, _ = change
    return recipe(kind, word)


def _steps_of(chain):
    """The number of steps from version to version that changes need, one behind the other."""
    return sum([_recipe_of(change).last() for change in chain])


def woven(old, new):
    """The Woven of the changes from one schema to another, each beginning as early as it may."""
    told = changes(old, new)
    chains = {change: _longest_chain(change, told) for change in told}
    longest = ()
    for change in told:
        if _steps_of(chains[change]) > _steps_of(longest):
            longest = chains[change]
    starts = {change: _steps_of(chains[change][:-1]) for change in told}
    return Woven(_steps_of(longest) + 1, starts, longest)


def _longest_chain(change, told):
    """The chain of changes up to one, each leaning on the one ahead of it, that needs the most steps."""
    longest = ()
    for other in told:
        if leans_on(change, other):
            chain = _longest_chain(other, told)
            if _steps_of(chain) > _steps_of(longest):
                longest = chain
    return (*longest, change)


def write_woven(told):
    """The text of all versions, with the changes that go on in each."""
    lines = []
    for version in range(told.length):
        lines.append(f"version {version}")
        for change in sorted(list(told.starts)):
            lines.extend(_change_lines(told.plan(change), " ".join(change), version))
    return "\n".join(lines)


def _change_lines(plan, words, version):
    """The lines of a change in a version."""
    lines = []
    duties = plan.sets[version]
    if version == 0 or duties != plan.sets[version - 1]:
        lines.append(f"  {words}: " + ", ".join(duties))
    if plan.job and plan.at == version:
        lines.append(f"  {words}: job {plan.job}")
    return lines
