"""Point 9: least loss on a line, beside a slow way through all partings into crowds."""

import itertools
import random

from alikecrowds.errors import BadCrowds, BadLoss, BadShown, BadSize, BadStretch, BadValue, BadValues, NoCrowds, TooMany
from alikecrowds.line import all_least, cuts_many, greatest_size, heights, least_line, line_loss, middles, one_more
from alikecrowds.line import shows_heights, shows_line, stretch_loss
from samples import CrowdCase, anything
from slow import is_strict, near, partings

SAMPLE = (7, 1, 2, 9, 8, 2)
NO_VALUES = [[1, 2], (True,), (1, None), (1, "2"), (1, (2,)), (1000001,), (0, -1000001), (1,) * 201, (1, 10 ** 39)]
NO_SIZES = [0, -1, 201, True, "1", (1,), [1], {1: 1}, 10 ** 39, None, "", (), 1 << 100]


def least_sum(values):
    """The least sum of how far these values are from any one integer, by trying all."""
    shown = range(min(values), max(values) + 1)
    return min([sum([abs(value - other) for value in values]) for other in shown])


def slow_losses(values, size):
    """The least losses of all ways to part these values into crowds."""
    return [sum([least_sum([values[place] for place in crowd]) for crowd in parting])
            for parting in partings(list(range(len(values))), size)]


def slow_cuts(values, size):
    """All ways to cut the ascending values into stretches: (loss, stretches)."""
    row = sorted(values)
    found = []
    for cuts in itertools.product((False, True), repeat=max(0, len(row) - 1)):
        ends = [0] + [at for at, cut in enumerate(cuts, start=1) if cut] + ([len(row)] if row else [])
        stretches = list(zip(ends, ends[1:]))
        if all([end - begin >= size for begin, end in stretches]):
            found.append((sum([least_sum(row[begin:end]) for begin, end in stretches]), stretches))
    return found


def slow_stretches(values, size):
    """The least loss over stretches alone, of any length."""
    row = sorted(values)
    found = [0] + [None] * len(row)
    for end in range(size, len(row) + 1):
        for begin in range(end - size + 1):
            if found[begin] is not None:
                middle = row[(begin + end) // 2]
                loss = found[begin] + sum([abs(value - middle) for value in row[begin:end]])
                if found[end] is None or loss < found[end]:
                    found[end] = loss
    return found[-1]


def is_right_line(values, size, least, value):
    """Whether this is (loss, crowds, shown) with the least loss; told apart from what only equals it."""
    if least is None:
        return value is None
    if not is_strict(value, (int, [[int]], [int])):
        return False
    loss, crowds, shown = value
    placed = sorted([place for crowd in crowds for place in crowd])
    if placed != list(range(len(values))) or len(shown) != len(crowds):
        return False
    if any([list(crowd) != sorted(crowd) or len(crowd) < size for crowd in crowds]):
        return False
    own = sum([abs(values[place] - other) for crowd, other in zip(crowds, shown) for place in crowd])
    return own == loss == least


def are_right_heights(values, size, least, value):
    row = sorted(values)
    if not is_strict(value, [int]) or len(value) != len(row) + 1 or value[0] != 0 or value[-1] != least:
        return False
    pairs = [(begin, end) for end in range(len(row) + 1) for begin in range(end) if end - begin >= size]
    return all([value[end] - value[begin] <= least_sum(row[begin:end]) for begin, end in pairs])


def drawn_values(dice, many):
    return tuple([dice.randint(-dice.choice([1, 4, 12]), 6) for _ in range(many)])


class BesideSlow(CrowdCase):
    def test_the_least_loss_of_all_crowds(self):
        dice = random.Random(91)
        for _ in range(120):
            values = drawn_values(dice, dice.randint(0, 6))
            for size in range(1, len(values) + 3):
                losses = slow_losses(values, size)
                least = min(losses, default=None)
                found = least_line(values, size)
                self.assertTrue(is_right_line(values, size, least, found), (values, size, found))
                self.assertTrue(shows_line(values, size, found))
                self.check(found is not None, not values or len(values) >= size)

    def test_all_crowds_with_the_least_loss_are_shown(self):
        dice = random.Random(92)
        for _ in range(30):
            values = drawn_values(dice, dice.randint(1, 5))
            for size in range(1, len(values) + 1):
                least = min(slow_losses(values, size))
                for parting in partings(list(range(len(values))), size):
                    crowds = tuple(dice.sample(parting, len(parting)))
                    shown = tuple([sorted([values[place] for place in crowd])[len(crowd) // 2] for crowd in crowds])
                    loss = line_loss(values, size, crowds, shown)
                    self.check(shows_line(values, size, (loss, crowds, shown)), loss == least)
                    self.check(shows_line(values, size, (least, crowds, shown)), loss == least)

    def test_near_values_are_refused(self):
        dice = random.Random(93)
        for many in (0, 1, 2, 4, 5):
            for size in range(1, many + 2):
                values = drawn_values(dice, many)
                least = min(slow_losses(values, size), default=None)
                for value in near(least_line(values, size)) + anything():
                    wanted = is_right_line(values, size, least, value)
                    self.check(shows_line(values, size, value), wanted)

    def test_heights(self):
        dice = random.Random(94)
        for _ in range(80):
            values = drawn_values(dice, dice.randint(0, 6))
            for size in range(1, max(1, len(values)) + 1):
                least = slow_stretches(values, size)
                found = heights(values, size)
                self.assertTrue(are_right_heights(values, size, least, found), (values, size, found))
                self.check(shows_heights(values, size, found), True)
                for value in near(found) + anything():
                    wanted = are_right_heights(values, size, least, value)
                    self.check(shows_heights(values, size, value), wanted)

    def test_no_loss_is_below_the_heights(self):
        dice = random.Random(95)
        for _ in range(60):
            values = drawn_values(dice, dice.randint(1, 5))
            for size in range(1, len(values) + 1):
                height = heights(values, size)[-1]
                for parting in partings(list(range(len(values))), size):
                    shown = tuple([dice.randint(-12, 6) for _ in parting])
                    self.assertGreaterEqual(line_loss(values, size, tuple(parting), shown), height)

    def test_stretches(self):
        dice = random.Random(96)
        for _ in range(60):
            values = drawn_values(dice, dice.randint(1, 7))
            row = sorted(values)
            for begin, end in itertools.combinations(range(len(row) + 1), 2):
                least = least_sum(row[begin:end])
                self.check(stretch_loss(values, begin, end), least)
                shown = [other for other in range(row[0] - 2, row[-1] + 3)
                         if sum([abs(value - other) for value in row[begin:end]]) == least]
                self.check(middles(values, begin, end), (shown[0], shown[-1]))

    def test_all_sizes(self):
        dice = random.Random(97)
        for _ in range(80):
            values = drawn_values(dice, dice.randint(0, 6))
            wanted = tuple([min(slow_losses(values, size)) for size in range(1, len(values) + 1)])
            self.check(all_least(values), wanted)
            for loss in range(max(wanted, default=0) + 3):
                self.check(greatest_size(values, loss), len([least for least in wanted if least <= loss]))
            self.check(greatest_size(values, 10 ** 39), len(values))

    def test_cuts(self):
        dice = random.Random(98)
        for _ in range(80):
            values = drawn_values(dice, dice.randint(0, 8))
            for size in range(1, len(values) + 3):
                cuts = slow_cuts(values, size)
                least = min([loss for loss, _ in cuts], default=None)
                self.check(cuts_many(values, size), len([loss for loss, _ in cuts if loss == least]))

    def test_one_more(self):
        dice = random.Random(99)
        for _ in range(80):
            values = drawn_values(dice, dice.randint(0, 5))
            for size in range(1, len(values) + 2):
                value = dice.randint(-12, 12)
                if len(values) >= size or (not values and size == 1):
                    wanted = min(slow_losses(values + (value,), size)) - min(slow_losses(values, size))
                    self.check(one_more(values, size, value), wanted)

    def test_longer_rows_over_stretches_alone(self):
        dice = random.Random(910)
        for many in (12, 25, 40):
            values = tuple([dice.randint(-50, 50) for _ in range(many)])
            for size in (1, 2, 3, 5, 7, 11, many // 2, many // 2 + 1, many):
                least = slow_stretches(values, size)
                loss, crowds, shown = least_line(values, size)
                self.assertTrue(is_right_line(values, size, least, (loss, crowds, shown)))
                self.check(all_least(values)[size - 1], least)
                self.check(shows_heights(values, size, heights(values, size)), True)
                self.assertTrue(all([len(crowd) < 2 * size for crowd in crowds]))
            self.assertEqual(list(all_least(values)), sorted(all_least(values)))
            self.check(all_least(values)[0], 0)


class Edges(CrowdCase):
    def test_without_values(self):
        for size in (1, 2, 200):
            self.check(least_line((), size), (0, (), ()))
            self.check(shows_line((), size, (0, (), ())), True)
            self.check(shows_line((), size, None), False)
            self.check(heights((), size), (0,))
            self.check(cuts_many((), size), 1)
            self.check(line_loss((), size, (), ()), 0)
        self.check((all_least(()), greatest_size((), 0), greatest_size((), 5)), ((), 0, 0))
        self.check(one_more((), 1, 5), 0)
        self.check_number(NoCrowds, 1, one_more, (), 2, 5)
        self.check_number(NoCrowds, 1, one_more, (), 200, 5)

    def test_fewer_values_than_the_size(self):
        for many in (1, 2, 6):
            values = (3,) * many
            self.check(least_line(values, many + 1), None)
            self.check(shows_line(values, many + 1, None), True)
            for value in near((0, (tuple(range(many)),), (3,))):
                self.check(shows_line(values, many + 1, value), value is None)
            self.check(cuts_many(values, many + 1), 0)
            for call in (heights, lambda *given: shows_heights(*given, (0,) * (many + 1))):
                self.check_number(NoCrowds, many, call, values, many + 1)
            self.check_number(NoCrowds, many, one_more, values, many + 1, 3)

    def test_what_is_shown_may_be_far_away(self):
        self.check(line_loss((5, 5), 2, ((0, 1),), (10 ** 39,)), 2 * 10 ** 39 - 10)
        self.check(line_loss((5, -5), 1, ((1,), (0,)), (-6, 7)), 3)

    def test_the_ends_of_the_line(self):
        values = (-1000000, 1000000)
        self.check((stretch_loss(values, 0, 2), middles(values, 0, 2)), (2000000, values))
        self.check(least_line(values * 100, 200)[0], 200000000)
        self.check(one_more(values, 2, 1000000), 0)
        self.check(one_more(values, 1, -1000000), 0)

    def test_two_hundred_values(self):
        dice = random.Random(911)
        values = tuple([dice.randint(-1000000, 1000000) for _ in range(200)])
        losses = all_least(values)
        for size in (1, 2, 3, 10, 66, 67, 100, 101, 199, 200):
            found = least_line(values, size)
            self.check((found[0], shows_line(values, size, found)), (losses[size - 1], True))
            self.check(shows_heights(values, size, heights(values, size)), True)
            self.check(greatest_size(values, found[0]) >= size, True)
            self.check_number(TooMany, 200, one_more, values, size, 0)
        self.check((cuts_many(values, 200), cuts_many(values, 1)), (1, 1))
        self.check(cuts_many((0,) * 200, 1), 2 ** 199)
        self.check(one_more(values[:199], 200 - 1, values[199]), losses[198] - all_least(values[:199])[198])

    def test_equal_calls(self):
        wanted = (least_line(SAMPLE, 3), heights(SAMPLE, 3))
        all_least(SAMPLE)
        self.check((least_line(tuple(list(SAMPLE)), 3), heights(tuple(list(SAMPLE)), 3)), wanted)


class WrongInputs(CrowdCase):
    def calls(self, values, size):
        """All functions, with wrong things behind values and size."""
        return [
            (line_loss, values, size, None, None), (least_line, values, size), (shows_line, values, size, None),
            (heights, values, size), (shows_heights, values, size, None), (cuts_many, values, size),
            (one_more, values, size, None),
        ]

    def test_bad_values_come_first(self):
        for values in NO_VALUES + [value for value in anything() if value != ()]:
            for call, *parts in self.calls(values, None) + self.calls(values, 1):
                self.check_raises(BadValues, values, call, *parts)
            self.check_raises(BadValues, values, stretch_loss, values, 0, 0)
            self.check_raises(BadValues, values, middles, values, None, 1)
            self.check_raises(BadValues, values, all_least, values)
            self.check_raises(BadValues, values, greatest_size, values, -1)

    def test_then_bad_size(self):
        for values in (SAMPLE, (), (0,) * 200):
            for size in NO_SIZES + anything():
                for call, *parts in self.calls(values, size):
                    self.check_raises(BadSize, size, call, *parts)

    def test_bad_stretches(self):
        wrong = [(0, 0), (6, 6), (3, 2), (-1, 2), (0, 7), (True, 2), (0, True), (None, 1), (0, None), (0, "1"),
                 (-2, -1), (0, 10 ** 39), ((0,), 1), (0, [1]), ([], {}), (7, 8), (1, 1)]
        for begin, end in wrong + [(value, value) for value in anything()]:
            for call in (stretch_loss, middles):
                self.check_number(BadStretch, (begin, end), call, SAMPLE, begin, end)
        for begin, end in ((0, 0), (0, 1)):
            self.check_number(BadStretch, (begin, end), stretch_loss, (), begin, end)

    def test_bad_crowds_ahead_of_bad_shown(self):
        right = ((1, 2, 5), (0, 3, 4))
        wrong = [list(right), [right], (right,), (list(right[0]), right[1]), right[:1], right + ((),),
                 (right[1], right[1]), ((1, 2, 5), (0, 4, 3)), ((1, 2, 5, 5), (0, 3, 4)), ((1, 2), (0, 3, 4, 5)),
                 ((1, 2, 5), (0, 3, 6)),
                 ((True, 2, 5), (0, 3, 4)), ((1, 2, 5), (False, 3, 4)), ((1, 2, 5), (0, 3, "4")),
                 ((-1, 2, 5), (0, 3, 4)),
                 ((1, 2, 5), (0, 3, 4), (1, 2, 5)), (), ((0, 1, 2, 3, 4),), ((0, 1, 2, 3, 4, 5, 6),), "012345"]
        for crowds in wrong + anything():
            for shown in ((2, 8), None):
                self.check_raises(BadCrowds, crowds, line_loss, SAMPLE, 3, crowds, shown)
        self.check(line_loss(SAMPLE, 3, right[::-1], (8, 2)), 3)
        self.check_raises(BadCrowds, right, line_loss, SAMPLE, 4, right, (2, 8))
        self.check_number(BadCrowds, ((),), line_loss, (), 1, ((),), ())

    def test_bad_shown(self):
        right = ((1, 2, 5), (0, 3, 4))
        for shown in [[2, 8], (2,), (2, 8, 8), (2, True), (2, "8"), (2, None), (2, (8,)), 2] + anything():
            if shown != (True, False):
                self.check_raises(BadShown, shown, line_loss, SAMPLE, 3, right, shown)
        self.check_number(BadShown, (True, False), line_loss, SAMPLE, 3, right, (True, False))
        self.check_number(BadShown, (0,), line_loss, (), 1, (), (0,))

    def test_bad_loss(self):
        for values in (SAMPLE, ()):
            for loss in [-1, True, False, None, "0", (0,), [0], -(10 ** 39)] + anything():
                if not (type(loss) is int and loss >= 0):
                    self.check_raises(BadLoss, loss, greatest_size, values, loss)

    def test_one_more_tells_all_in_order(self):
        full = (0,) * 200
        for values, size in ((SAMPLE, 3), (SAMPLE, 7), (full, 1), ((), 2)):
            for value in anything() + [1000001, -1000001, True, "1", (1,)]:
                if not (type(value) is int and abs(value) <= 1000000):
                    self.check_raises(BadValue, value, one_more, values, size, value)
        self.check_number(TooMany, 200, one_more, full, 200, 0)
        self.check(one_more(full[:199], 199, 1), 1)
        self.check_number(NoCrowds, 199, one_more, full[:199], 200, 1)
        self.check_number(NoCrowds, 6, one_more, SAMPLE, 7, 1)
