"""Point 10: least loss in a tree of kinds, beside a slow way through all lifts."""

import itertools
import random

from alikecrowds.errors import BadColumn, BadCounts, BadLifts, BadNumber
from alikecrowds.registers import Register
from alikecrowds.trees import all_losses, are_right, floors, greatest_k, kind_counts, least_lifts, left_at, lift_loss
from alikecrowds.trees import lifts_many, shared_out, shows_least_lifts, shows_shared_out
from samples import CrowdCase, anything
from slow import is_strict, near

FOOD = ["column food kinds", "kind food any none 10", "kind food fruit any 4", "kind food apple fruit 0",
        "kind food pear fruit 0", "kind food meat any 3"]
EATERS = ["person ann apple", "person bob pear", "person cy apple", "person dee meat"]
COUNTS = (0, 0, 2, 1, 1)
LIFTS = (0, 1, 0, 1, 1)


def food():
    return Register("\n".join(["column age line"] + FOOD + ["person ann 1 apple", "person bob 2 pear"]))


class Grown:
    """A tree that is drawn: for each kind the one above it, and its loss; with counts for it."""

    def __init__(self, dice, most_kinds, most_persons):
        many = dice.randint(1, most_kinds)
        self.kinds = range(many)
        self.ups = [None] + [dice.randrange(max(0, kind - dice.choice([1, 2, many])), kind) for kind in range(1, many)]
        self.losses = [dice.randint(0, 12)]
        for kind in range(1, many):
            self.losses.append(dice.randint(0, self.losses[self.ups[kind]]))
        self.counts = [0] * many
        for _ in range(dice.randint(0, most_persons)):
            self.counts[dice.randrange(many)] += 1
        self.counts = tuple(self.counts)
        lines = ["column home kinds", f"kind home k0 none {self.losses[0]}"]
        lines += [f"kind home k{kind} k{self.ups[kind]} {self.losses[kind]}" for kind in range(1, many)]
        self.census = Register("\n".join(lines))
        self.given = (self.census, "home", self.counts)

    def belows(self, kind):
        return [below for below in self.kinds if self.ups[below] == kind]

    def all_below(self, kind):
        """The kind and all below it."""
        return [kind] + [deep for below in self.belows(kind) for deep in self.all_below(below)]

    def way_up(self, kind):
        return [] if kind is None else [kind] + self.way_up(self.ups[kind])

    def many_below(self, kind):
        return sum([self.counts[deep] for deep in self.all_below(kind)])

    def left(self, lifts):
        return [self.counts[kind] + sum([lifts[below] for below in self.belows(kind)]) - lifts[kind]
                for kind in self.kinds]

    def step(self, kind):
        return 0 if kind == 0 else self.losses[self.ups[kind]] - self.losses[kind]

    def loss(self, lifts, kinds):
        return sum([lifts[kind] * self.step(kind) for kind in kinds])

    def all_lifts(self):
        """All lifts with which nowhere less than 0 are left."""
        ranges = [range(1)] + [range(self.many_below(kind) + 1) for kind in self.kinds[1:]]
        return [lifts for lifts in itertools.product(*ranges) if min(self.left(lifts)) >= 0]

    def right_lifts(self, k):
        return [lifts for lifts in self.all_lifts() if all([left == 0 or left >= k for left in self.left(lifts)])]

    def floor(self, kind, k):
        """The numbers of floors for this kind, by all lifts within it."""
        found = [None] * (1 if kind == 0 else self.many_below(kind) + 1)
        deep = self.all_below(kind)
        for lifts in self.all_lifts():
            left = self.left(lifts)
            if all([left[one] == 0 or left[one] >= k for one in deep]):
                loss = self.loss(lifts, deep[1:])
                if found[lifts[kind]] is None or loss < found[lifts[kind]]:
                    found[lifts[kind]] = loss
        return tuple(found)

    def is_right_sharing(self, lifts, value):
        if not is_strict(value, [(int, int, int)]) or list(value) != sorted(value):
            return False
        if len({part[:2] for part in value}) < len(value) or any([many < 1 for _, _, many in value]):
            return False
        if any([own not in self.kinds or shown not in self.way_up(own) for own, shown, _ in value]):
            return False
        owns = [sum([many for one, _, many in value if one == kind]) for kind in self.kinds]
        shown = [sum([many for _, one, many in value if one == kind]) for kind in self.kinds]
        return owns == list(self.counts) and shown == self.left(lifts)


def grown(seed, many, kinds=5, persons=5):
    dice = random.Random(seed)
    return [Grown(dice, kinds, persons) for _ in range(many)]


class BesideSlow(CrowdCase):
    def test_lifts(self):
        for tree in grown(101, 60):
            for lifts in tree.all_lifts():
                self.check(left_at(*tree.given, lifts), tuple(tree.left(lifts)))
                self.check(lift_loss(*tree.given, lifts), tree.loss(lifts, tree.kinds))

    def test_least_lifts(self):
        for tree in grown(102, 100):
            for k in range(1, sum(tree.counts) + 3):
                rights = tree.right_lifts(k)
                losses = [tree.loss(lifts, tree.kinds) for lifts in rights]
                wanted = [(loss, lifts) for loss, lifts in zip(losses, rights) if loss == min(losses)] or [None]
                found = least_lifts(*tree.given, k)
                self.assertIn(repr(found), [repr(value) for value in wanted])
                self.check(lifts_many(*tree.given, k), len(rights))
                self.check(bool(rights), sum(tree.counts) in [0] + list(range(k, 99)))
                for value in wanted + [(min(losses, default=0), lifts) for lifts in rights]:
                    self.check(shows_least_lifts(*tree.given, k, value), repr(value) in [repr(one) for one in wanted])
                even = [lifts for lifts in rights if all([tree.step(kind) == 0 for kind in tree.kinds if lifts[kind]])]
                self.check(found is not None and found[0] == 0, len(even) > 0)

    def test_values_near_to_least_lifts(self):
        for tree in grown(103, 40):
            for k in (1, 2, 3):
                rights = tree.right_lifts(k)
                least = min([tree.loss(lifts, tree.kinds) for lifts in rights], default=None)
                wanted = [repr((least, lifts)) for lifts in rights if tree.loss(lifts, tree.kinds) == least]
                for value in near(least_lifts(*tree.given, k)) + anything():
                    self.check(shows_least_lifts(*tree.given, k, value), repr(value) in (wanted or ["None"]))

    def test_which_are_right(self):
        for tree in grown(104, 40, 4, 4):
            ranges = [range(2)] + [range(tree.many_below(kind) + 2) for kind in tree.kinds[1:]]
            for k in range(1, 5):
                rights = tree.right_lifts(k)
                for lifts in itertools.product(*ranges):
                    self.check(are_right(*tree.given, k, lifts), lifts in rights)
                for value in near(rights[0] if rights else tree.counts) + anything():
                    wanted = repr(value) in [repr(lifts) for lifts in rights]
                    self.check(are_right(*tree.given, k, value), wanted)

    def test_floors(self):
        for tree in grown(105, 60):
            for k in range(1, sum(tree.counts) + 3):
                self.check(floors(*tree.given, k), tuple([tree.floor(kind, k) for kind in tree.kinds]))

    def test_all_losses(self):
        for tree in grown(106, 60):
            many = sum(tree.counts)
            wanted = [min([tree.loss(lifts, tree.kinds) for lifts in tree.right_lifts(k)]) for k in range(1, many + 1)]
            self.check(all_losses(*tree.given), tuple(wanted))
            self.assertEqual(wanted, sorted(wanted))
            for loss in list(range(max(wanted, default=0) + 2)) + [10 ** 9]:
                most = max([k for k in range(1, many + 1) if wanted[k - 1] <= loss], default=None)
                self.check(greatest_k(*tree.given, loss), most)

    def test_sharing(self):
        for tree in grown(107, 40, 5, 4):
            for lifts in tree.all_lifts():
                found = shared_out(*tree.given, lifts)
                self.assertTrue(tree.is_right_sharing(lifts, found), (tree.census.text, tree.counts, lifts, found))
                self.check(shows_shared_out(*tree.given, lifts, found), True)
                self.check(sum([many * (tree.losses[shown] - tree.losses[own]) for own, shown, many in found]),
                           lift_loss(*tree.given, lifts))

    def test_all_sharings(self):
        for tree in grown(108, 30, 3, 3):
            parts = [(own, shown, many) for own in tree.kinds for shown in tree.kinds for many in (1, 2)]
            for lifts in tree.all_lifts():
                for many in range(4):
                    for value in itertools.combinations(parts, many):
                        wanted = tree.is_right_sharing(lifts, value)
                        self.check(shows_shared_out(*tree.given, lifts, value), wanted)

    def test_nobody_and_less_than_nobody_is_shared_out(self):
        census, lifts = food(), (0, 2, 2, 0, 0)
        right = ((2, 0, 2), (3, 3, 1), (4, 4, 1))
        self.check(shows_shared_out(census, "food", COUNTS, lifts, right), True)
        for wrong in (((2, 0, 2), (2, 1, 0)) + right[1:], ((1, 1, 0),) + right, right + ((4, 0, 0),),
                      ((2, 0, 2), (3, 1, -1), (3, 3, 2), (4, 4, 1)), ((2, 0, 3), (2, 2, -1)) + right[1:],
                      ((2, 0, 2), (2, 1, 1), (2, 2, -1), (3, 1, -1), (3, 3, 2), (4, 4, 1))):
            self.check(shows_shared_out(census, "food", COUNTS, lifts, wrong), False)

    def test_values_near_to_sharings(self):
        for tree in grown(109, 30):
            for lifts in tree.all_lifts()[:6]:
                for value in near(shared_out(*tree.given, lifts)) + anything():
                    wanted = tree.is_right_sharing(lifts, value)
                    self.check(shows_shared_out(*tree.given, lifts, value), wanted)

    def test_doubled_counts(self):
        for tree in grown(110, 40, 8, 20):
            doubled = tuple([count * 2 for count in tree.counts])
            for k in range(1, sum(tree.counts) + 1):
                found = least_lifts(tree.census, "home", doubled, 2 * k)
                self.assertLessEqual(found[0], 2 * least_lifts(*tree.given, k)[0])


class Greater(CrowdCase):
    def check_floors(self, tree, k, found):
        """Each number follows from those directly below; least_lifts tells that of the top."""
        for kind in tree.kinds:
            arrived = {0: 0}
            for below in tree.belows(kind):
                sums = {}
                for (many, loss), (lift, more) in itertools.product(arrived.items(), enumerate(found[below])):
                    if more is not None:
                        sums.setdefault(many + lift, []).append(loss + more + lift * tree.step(below))
                arrived = {many: min(losses) for many, losses in sums.items()}
            wanted = []
            for lift in range(1 if kind == 0 else tree.many_below(kind) + 1):
                lefts = {many: tree.counts[kind] + many - lift for many in arrived}
                losses = [loss for many, loss in arrived.items() if lefts[many] == 0 or lefts[many] >= k]
                wanted.append(min(losses, default=None))
            self.check(found[kind], tuple(wanted))

    def test_floors_of_greater_trees(self):
        for tree in grown(111, 12, 60, 60):
            for k in (1, 2, 5, 20, 60):
                found = floors(*tree.given, k)
                self.check_floors(tree, k, found)
                self.check(len(found[0]), 1)
                told = least_lifts(*tree.given, k)
                self.check(None if told is None else told[0], found[0][0])
                if told is not None:
                    self.check(shows_least_lifts(*tree.given, k, told), True)
                    self.check(are_right(*tree.given, k, told[1]), True)
                    self.check(lift_loss(*tree.given, told[1]), told[0])
                    for kind in tree.kinds:
                        own = tree.loss(told[1], tree.all_below(kind)[1:])
                        self.check(own, found[kind][told[1][kind]])

    def test_sixty_kinds_and_persons(self):
        for shape in (lambda kind: kind - 1, lambda kind: 0, lambda kind: (kind - 1) // 2):
            lines = [f"kind home k{kind} k{shape(kind)} {1000000 - kind}" for kind in range(1, 60)]
            census = Register("\n".join(["column home kinds", "kind home k0 none 1000000"] + lines))
            for counts in ((1,) * 60, (0,) * 59 + (60,), (60,) + (0,) * 59, (0,) * 30 + (2,) * 30):
                losses = all_losses(census, "home", counts)
                self.check(len(losses), 60)
                self.check(greatest_k(census, "home", counts, 10 ** 9), 60)
                for k in (1, 7, 60):
                    found = least_lifts(census, "home", counts, k)
                    self.check((found[0], shows_least_lifts(census, "home", counts, k, found)), (losses[k - 1], True))
                    sharing = shared_out(census, "home", counts, found[1])
                    self.check(shows_shared_out(census, "home", counts, found[1], sharing), True)
                    self.assertGreater(lifts_many(census, "home", counts, k), 0)

    def test_kind_counts(self):
        lines = ["column age line"] + FOOD + ["column home kinds", "kind home up none 1", "kind home in up 0"]
        lines = lines[:2] + [lines[7]] + lines[2:7] + lines[8:]
        census = Register("\n".join(lines + ["person ann 3 pear in", "person bob 4 pear up", "person cid 5 any in"]))
        self.check(kind_counts(census, "food"), (1, 0, 0, 2, 0))
        self.check(kind_counts(census, "home"), (1, 2))
        bare = Register("\n".join(lines))
        self.check((kind_counts(bare, "food"), kind_counts(bare, "home")), ((0,) * 5, (0, 0)))
        eaters = Register("\n".join(FOOD + EATERS))
        self.check(kind_counts(eaters, "food"), COUNTS)

    def test_without_persons(self):
        for k in (1, 60):
            self.check(least_lifts(food(), "food", (0,) * 5, k), (0, (0,) * 5))
            self.check(shows_least_lifts(food(), "food", (0,) * 5, k, None), False)
            self.check(lifts_many(food(), "food", (0,) * 5, k), 1)
            self.check(floors(food(), "food", (0,) * 5, k), ((0,),) * 5)
        self.check(all_losses(food(), "food", (0,) * 5), ())
        self.check(greatest_k(food(), "food", (0,) * 5, 5), None)
        self.check(shared_out(food(), "food", (0,) * 5, (0,) * 5), ())

    def test_too_few_persons(self):
        self.check(least_lifts(food(), "food", COUNTS, 5), None)
        self.check(shows_least_lifts(food(), "food", COUNTS, 5, None), True)
        self.check(shows_least_lifts(food(), "food", COUNTS, 5, (17, LIFTS)), False)
        self.check(lifts_many(food(), "food", COUNTS, 5), 0)
        self.check(floors(food(), "food", COUNTS, 5)[0], (None,))

    def test_one_kind_alone(self):
        census = Register("column home kinds\nkind home all none 7")
        self.check(least_lifts(census, "home", (60,), 60), (0, (0,)))
        self.check((all_losses(census, "home", (3,)), lifts_many(census, "home", (3,), 4)), ((0, 0, 0), 0))
        self.check((floors(census, "home", (3,), 3), floors(census, "home", (3,), 4)), (((0,),), ((None,),)))
        self.check(shared_out(census, "home", (3,), (0,)), ((0, 0, 3),))


class WrongInputs(CrowdCase):
    def calls(self, column, counts, last):
        """All functions that take counts, with this last argument where there is one."""
        given = (food(), column, counts)
        return [(left_at, *given, last), (lift_loss, *given, last), (are_right, *given, last, None),
                (least_lifts, *given, last), (shows_least_lifts, *given, last, None), (lifts_many, *given, last),
                (floors, *given, last), (all_losses, *given), (greatest_k, *given, last), (shared_out, *given, last),
                (shows_shared_out, *given, last, None)]

    def test_bad_column_comes_first(self):
        for column in anything() + ["age", "apple", "food ", "foo", ("food",), 1, 0]:
            self.check_raises(BadColumn, column, kind_counts, food(), column)
            for counts in (COUNTS, None):
                for call, *parts in self.calls(column, counts, None):
                    self.check_raises(BadColumn, column, call, *parts)

    def test_then_bad_counts(self):
        wrong = [list(COUNTS), COUNTS[:4], COUNTS + (0,), (0, 0, 2, 1, -1), (0, 0, 2, True, 1), (0, 0, 2, 1, "1"),
                 (0, 0, 2, 1, None), (0, 0, 2, 1, (1,)), (61, 0, 0, 0, 0), (12, 12, 12, 12, 13), (0, 0, 2, 1, 10 ** 39),
                 (0, 0, False, 1, 1), 4]
        for counts in wrong + anything():
            for last in (2, None):
                for call, *parts in self.calls("food", counts, last):
                    self.check_raises(BadCounts, counts, call, *parts)
        self.check(all_losses(food(), "food", (12,) * 5)[0], 0)

    def test_bad_numbers(self):
        for k in anything() + [0, 61, -1, "2", (2,), [2], 10 ** 39]:
            for call in (least_lifts, lifts_many, floors):
                self.check_raises(BadNumber, k, call, food(), "food", COUNTS, k)
            for call in (are_right, shows_least_lifts):
                self.check_raises(BadNumber, k, call, food(), "food", COUNTS, k, LIFTS)
        for loss in anything() + [-1, 10 ** 9 + 1, 10 ** 39, "0", (0,), [0]]:
            for counts in (COUNTS, (0,) * 5):
                self.check_raises(BadNumber, loss, greatest_k, food(), "food", counts, loss)
        self.check((greatest_k(food(), "food", COUNTS, 0), greatest_k(food(), "food", COUNTS, 10 ** 9)), (1, 4))

    def test_bad_lifts(self):
        wrong = [list(LIFTS), LIFTS[:4], LIFTS + (0,), (1, 1, 0, 1, 1), (0, 2, 0, 1, 1), (0, 0, 0, 0, 2),
                 (0, 0, 3, 0, 0),
                 (0, 1, 0, True, 1), (False, 1, 0, 1, 1), (0, 1, 0, -1, 1), (0, 1, 0, "1", 1), (0, 1, None, 1, 1),
                 (0, 61, 0, 0, 0), (0, 0, 0, 0, 10 ** 39), (0, 0, -1, 0, 0), (0, 4, 2, 1, 0)]
        for lifts in wrong + anything():
            for call in (left_at, lift_loss, shared_out):
                self.check_raises(BadLifts, lifts, call, food(), "food", COUNTS, lifts)
            self.check_raises(BadLifts, lifts, shows_shared_out, food(), "food", COUNTS, lifts, ())
            for k in (1, 2):
                self.check(are_right(food(), "food", COUNTS, k, lifts), False)
        self.check(left_at(food(), "food", (0, 0, 60, 0, 0), (0, 60, 60, 0, 0)), (60, 0, 0, 0, 0))

    def test_equal_calls(self):
        wanted = [least_lifts(food(), "food", COUNTS, 2), floors(food(), "food", COUNTS, 2)]
        shared_out(food(), "food", COUNTS, LIFTS)
        self.check([least_lifts(food(), "food", COUNTS, 2), floors(food(), "food", COUNTS, 2)], wanted)
