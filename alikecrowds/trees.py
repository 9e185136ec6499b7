"""Least loss in a tree of kinds: persons are shown as kinds above their own ones.

Kinds are told by their numbers here. Each stands behind the one directly above it, so
that who goes from the last one to the first one comes to all kinds below one ahead of it.
"""

from alikecrowds.errors import BadColumn, BadCounts, BadLifts, BadNumber
from alikecrowds.registers import is_kinds_column
from alikecrowds.scales import is_ascending, is_integer, is_number_below, is_tuple_of

MOST_COUNTED = 60
MOST_CROWD = 60
MOST_LOSS = 1000000000


class Branches:
    """A column of kinds by numbers.

    ways_up has for each kind the tuple of it and of all above it, up to the top; steps has
    how much more is lost one kind higher, 0 for the top; belows the kinds directly below.
    """

    def __init__(self, tree):
        names = list(tree.ups)
        numbers = {name: number for number, name in enumerate(names)}
        self.ways_up = [tuple([numbers[up] for up in tree.ups[name]]) for name in names]
        self.steps = []
        self.belows = [[] for _ in names]
        for kind, way in enumerate(self.ways_up):
            up = way[:2][-1]
            self.steps.append(tree.losses[names[up]] - tree.losses[names[kind]])
            if up != kind:
                self.belows[up].append(kind)

    def from_below(self):
        """All kinds, each behind those below it."""
        return list(reversed(range(len(self.steps))))

    def left(self, counts, lifts):
        """How many are left at each kind."""
        found = []
        for kind, belows in enumerate(self.belows):
            found.append(counts[kind] + sum([lifts[below] for below in belows]) - lifts[kind])
        return found

    def loss(self, lifts):
        """The loss of these lifts."""
        return sum([lift * step for lift, step in zip(lifts, self.steps)])


class Lifting:
    """The least losses within the kinds below each kind, for each number of persons lifted.

    floors is as floors tells. arrivals has for each kind a list: for its first kinds
    directly below, none, one, two and so on, the least losses for each number of persons
    who come from these, the step to this kind counted. None stands where there is no way.
    """

    def __init__(self, branches, counts, enough):
        self.branches = branches
        self.counts = counts
        self.enough = enough
        self.floors = [[] for _ in counts]
        self.arrivals = [[[0]] for _ in counts]
        for kind in branches.from_below():
            for below in branches.belows[kind]:
                self.arrivals[kind].append(least_sums(self.arrivals[kind][-1], self._coming(below)))
            self.floors[kind] = self._floor(kind)

    def _coming(self, kind):
        """The least losses for each number lifted from this kind, the step counted."""
        step = self.branches.steps[kind]
        return [None if loss is None else loss + lift * step for lift, loss in enumerate(self.floors[kind])]

    def _floor(self, kind):
        """The numbers of floors for this kind."""
        arrived = self.arrivals[kind][-1]
        behind = least_behind(arrived)
        most = 0 if kind == 0 else self.counts[kind] + len(arrived) - 1
        found = []
        for lift in range(most + 1):
            # Just so many come that nobody is left, or so many that a crowd is.
            none_left = lift - self.counts[kind]
            crowd_left = max(0, none_left + self.enough)
            losses = [arrived[none_left]] if none_left >= 0 else []
            losses += [behind[crowd_left]] if crowd_left < len(arrived) else []
            found.append(least_of(losses))
        return found

    def loss(self):
        """The least loss of all right lifts, None if there are none."""
        return self.floors[0][0]

    def lifts(self):
        """Any right lifts with the least loss, which there are."""
        found = [0] * len(self.counts)
        for kind, belows in enumerate(self.branches.belows):
            many = self._arriving(kind, found[kind])
            for at in reversed(range(len(belows))):
                found[belows[at]] = self._share(kind, at, many)
                many -= found[belows[at]]
        return tuple(found)

    def _arriving(self, kind, lift):
        """How many come to this kind with the least loss, if so many are lifted from it."""
        arrived = self.arrivals[kind][-1]
        many = 0
        while arrived[many] != self.floors[kind][lift] or not self._may_stay(self.counts[kind] + many - lift):
            many += 1
        return many

    def _may_stay(self, left):
        """Whether so many may be left at a kind."""
        return left == 0 or left >= self.enough

    def _share(self, kind, at, many):
        """How many come from one of the kinds directly below, if many come from it and those ahead of it."""
        ahead, both = self.arrivals[kind][at:at + 2]
        coming = self._coming(self.branches.belows[kind][at])
        lift = max(0, many - len(ahead) + 1)
        while least_sums(coming[lift:lift + 1], [ahead[many - lift]]) != [both[many]]:
            lift += 1
        return lift


def least_of(losses):
    """The least of these losses, None left away; None if there is none."""
    return min([loss for loss in losses if loss is not None], default=None)


def least_sums(one, other):
    """For each number the least loss of all ways to part it: some with a loss of one, the others of other."""
    found = [None] * (len(one) + len(other) - 1)
    for many, loss in enumerate(one):
        for more, further in enumerate(other):
            if loss is not None and further is not None:
                found[many + more] = least_of([found[many + more], loss + further])
    return found


def least_behind(losses):
    """For each number the least of the losses from it on."""
    found = [None]
    for loss in losses[::-1]:
        found.append(least_of([found[-1], loss]))
    return found[:0:-1]


def branches_of(census, column):
    """The branches of this column; raises BadColumn."""
    if not is_kinds_column(census.scales, column):
        raise BadColumn(column)
    return Branches(census.scales[column])


def counted_branches(census, column, counts):
    """The branches of this column; raises BadColumn, then BadCounts."""
    branches = branches_of(census, column)
    if not is_tuple_of(counts, len(branches.steps)):
        raise BadCounts(counts)
    if not all([is_number_below(MOST_COUNTED + 1, count) for count in counts]) or sum(counts) > MOST_COUNTED:
        raise BadCounts(counts)
    return branches


def crowded_branches(census, column, counts, k):
    """The branches of this column; raises BadColumn, BadCounts, then BadNumber."""
    branches = counted_branches(census, column, counts)
    if not is_integer(k) or not 1 <= k <= MOST_CROWD:
        raise BadNumber(k)
    return branches


def are_lifts(branches, counts, value):
    """Whether any value is lifts with which at no kind less than 0 are left."""
    if not is_tuple_of(value, len(counts)) or not all([is_number_below(MOST_COUNTED + 1, lift) for lift in value]):
        return False
    return value[0] == 0 and min(branches.left(counts, value)) >= 0


def lifted_branches(census, column, counts, lifts):
    """The branches of this column; raises BadColumn, BadCounts, then BadLifts."""
    branches = counted_branches(census, column, counts)
    if not are_lifts(branches, counts, lifts):
        raise BadLifts(lifts)
    return branches


def are_right_lifts(branches, counts, k, value):
    """Whether any value is lifts that are right for these counts and k."""
    if not are_lifts(branches, counts, value):
        return False
    return all([left == 0 or left >= k for left in branches.left(counts, value)])


def kind_counts(census, column):
    """How many persons of the register have each kind."""
    branches_of(census, column)
    at = list(census.scales).index(column)
    own = [values[at] for _, values in census.persons]
    return tuple([own.count(kind) for kind in census.scales[column].ups])


def left_at(census, column, counts, lifts):
    """How many are left at each kind."""
    return tuple(lifted_branches(census, column, counts, lifts).left(counts, lifts))


def lift_loss(census, column, counts, lifts):
    """The loss of these lifts."""
    return lifted_branches(census, column, counts, lifts).loss(lifts)


def are_right(census, column, counts, k, value):
    """Whether any value is lifts that are right for these counts and k."""
    return are_right_lifts(crowded_branches(census, column, counts, k), counts, k, value)


def least_lifts(census, column, counts, k):
    """(loss, lifts) with the least loss of all right lifts, None if there are none."""
    lifting = Lifting(crowded_branches(census, column, counts, k), counts, k)
    return None if lifting.loss() is None else (lifting.loss(), lifting.lifts())


def shows_least_lifts(census, column, counts, k, value):
    """Whether any value is what least_lifts may return."""
    branches = crowded_branches(census, column, counts, k)
    least = Lifting(branches, counts, k).loss()
    if least is None:
        return value is None
    if not is_tuple_of(value, 2) or not is_integer(value[0]) or not are_right_lifts(branches, counts, k, value[1]):
        return False
    return value[0] == least == branches.loss(value[1])


def lifts_many(census, column, counts, k):
    """How many right lifts there are."""
    branches = crowded_branches(census, column, counts, k)
    ways = [[] for _ in counts]
    for kind in branches.from_below():
        arrived = [1]
        for below in branches.belows[kind]:
            arrived = products(arrived, ways[below])
        most = 0 if kind == 0 else counts[kind] + len(arrived) - 1
        for lift in range(most + 1):
            lefts = [counts[kind] + many - lift for many in range(len(arrived))]
            ways[kind].append(sum([many for many, left in zip(arrived, lefts) if left == 0 or left >= k]))
    return ways[0][0]


def products(one, other):
    """For each number the ways to part it: some in a way of one, the others in a way of other."""
    found = [0] * (len(one) + len(other) - 1)
    for many, ways in enumerate(one):
        for more, further in enumerate(other):
            found[many + more] += ways * further
    return found


def floors(census, column, counts, k):
    """What shows that no loss is less: the least losses for each kind, and each number lifted above it."""
    lifting = Lifting(crowded_branches(census, column, counts, k), counts, k)
    return tuple([tuple(losses) for losses in lifting.floors])


def all_losses(census, column, counts):
    """The least losses for k = 1, 2, .. up to how many persons there are."""
    branches = counted_branches(census, column, counts)
    return tuple([Lifting(branches, counts, k).loss() for k in range(1, sum(counts) + 1)])


def greatest_k(census, column, counts, loss):
    """The greatest k for which the least loss is at most this, None for no persons."""
    losses = all_losses(census, column, counts)
    if not is_integer(loss) or not 0 <= loss <= MOST_LOSS:
        raise BadNumber(loss)
    return len([least for least in losses if least <= loss]) if losses else None


def shared_out(census, column, counts, lifts):
    """(own, shown, many): how many persons of each kind are shown as which kind with these lifts."""
    branches = lifted_branches(census, column, counts, lifts)
    lefts = branches.left(counts, lifts)
    # For each kind (own, many) of all who come to it, and of its own persons.
    waiting = [[(kind, count)] for kind, count in enumerate(counts)]
    found = []
    for kind in branches.from_below():
        left = lefts[kind]
        for own, many in list(waiting[kind]):
            here = min(left, many)
            left -= here
            if here > 0:
                found.append((own, kind, here))
            if many > here:
                waiting[branches.ways_up[kind][1]].append((own, many - here))
    return tuple(sorted(found))


def shows_shared_out(census, column, counts, lifts, value):
    """Whether any value is what shared_out may return."""
    branches = lifted_branches(census, column, counts, lifts)
    if not isinstance(value, tuple) or not all([is_sharing(branches, part) for part in value]):
        return False
    if not is_ascending([(own, shown) for own, shown, _ in value]):
        return False
    owns, lefts = [0] * len(counts), [0] * len(counts)
    for own, shown, many in value:
        owns[own] += many
        lefts[shown] += many
    return owns == list(counts) and lefts == branches.left(counts, lifts)


def is_sharing(branches, value):
    """Whether any value is (own, shown, many), shown being own or above it."""
    if not is_tuple_of(value, 3):
        return False
    own, shown, many = value
    if not is_number_below(len(branches.steps), own) or not is_integer(shown):
        return False
    return shown in branches.ways_up[own] and is_integer(many) and many > 0
