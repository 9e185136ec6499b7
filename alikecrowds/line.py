"""Least loss on a line: values are put into crowds, and of each crowd one value is shown.

Ascending values cut into stretches have the least loss of all crowds, and stretches of
fewer than twice size values suffice: so it is the length of a shortest way from 0 to n.
"""

from alikecrowds.errors import BadCrowds, BadLoss, BadShown, BadSize, BadStretch, BadValue, BadValues
from alikecrowds.errors import NoCrowds, TooMany
from alikecrowds.scales import is_integer, is_line_value, is_lot_below, is_number_below, is_tuple_of

MOST_VALUES = 200
MOST_SIZE = 200


class Ladder:
    """Values in ascending order, and the losses of their stretches.

    places has their places in the values; sums has for each number the sum of so many first ones.
    """

    def __init__(self, values):
        pairs = sorted([(value, place) for place, value in enumerate(values)])
        self.ascending = [value for value, _ in pairs]
        self.places = [place for _, place in pairs]
        self.sums = [0]
        for value in self.ascending:
            self.sums.append(self.sums[-1] + value)

    def loss(self, begin, end):
        """The least loss of a single crowd with the values of this stretch."""
        middle = (begin + end) // 2
        shown = self.ascending[middle]
        above = self.sums[end] - self.sums[middle] - shown * (end - middle)
        below = shown * (middle - begin) - self.sums[middle] + self.sums[begin]
        return above + below

    def middles(self, begin, end):
        """The least and the greatest integer that is shown of this stretch with the least loss."""
        return (self.ascending[(begin + end - 1) // 2], self.ascending[(begin + end) // 2])

    def first_losses(self, size):
        """For each number the least loss of crowds of so many first values, None if there are none."""
        found = [0]
        for end in range(1, len(self.places) + 1):
            # Longer stretches can be cut into two: none of them has less loss than both.
            begins = [begin for begin in range(max(0, end - 2 * size + 1), end - size + 1) if found[begin] is not None]
            found.append(min([found[begin] + self.loss(begin, end) for begin in begins], default=None))
        return found

    def least_stretches(self, size):
        """The stretches, the last one first, of any crowds with the least loss."""
        losses = self.first_losses(size)
        found = []
        end = len(self.places)
        while end > 0:
            begin = max(0, end - 2 * size + 1)
            while losses[begin] is None or losses[begin] + self.loss(begin, end) != losses[end]:
                begin += 1
            found.append((begin, end))
            end = begin
        return found

    def crowd(self, begin, end):
        """The places of the values of this stretch."""
        return tuple(sorted(self.places[begin:end]))


def ladder_of(values):
    """The ladder of these values; raises BadValues."""
    if not isinstance(values, tuple) or len(values) > MOST_VALUES:
        raise BadValues(values)
    if not all([is_line_value(value) for value in values]):
        raise BadValues(values)
    return Ladder(values)


def sized_ladder(values, size):
    """The ladder of these values; raises BadValues, then BadSize."""
    ladder = ladder_of(values)
    if not is_integer(size) or not 1 <= size <= MOST_SIZE:
        raise BadSize(size)
    return ladder


def has_crowds(values, size):
    """Whether there are crowds for these values and this size."""
    return len(values) == 0 or len(values) >= size


def check_stretch(values, begin, end):
    """Raises BadStretch unless this is a stretch."""
    if not is_number_below(len(values) + 1, end) or not is_number_below(end, begin):
        raise BadStretch((begin, end))


def stretch_loss(values, begin, end):
    """The least loss of a single crowd with the values of this stretch."""
    ladder = ladder_of(values)
    check_stretch(values, begin, end)
    return ladder.loss(begin, end)


def middles(values, begin, end):
    """(low, high): what is shown of this stretch with the least loss is any integer from low to high."""
    ladder = ladder_of(values)
    check_stretch(values, begin, end)
    return ladder.middles(begin, end)


def parts_places(values, size, crowds):
    """Whether any value is crowds for these values and this size."""
    if not isinstance(crowds, tuple):
        return False
    placed = []
    for crowd in crowds:
        if not is_lot_below(len(values), crowd) or len(crowd) < size:
            return False
        placed.extend(list(crowd))
    return sorted(placed) == list(range(len(values)))


def are_shown(crowds, shown):
    """Whether any value has an integer for each of these crowds."""
    return is_tuple_of(shown, len(crowds)) and all([is_integer(value) for value in shown])


def loss_shown(values, crowds, shown):
    """The loss with these crowds, and what is shown of them."""
    total = 0
    for crowd, value in zip(crowds, shown):
        total += sum([abs(values[place] - value) for place in crowd])
    return total


def line_loss(values, size, crowds, shown):
    """The loss with these crowds, and what is shown of them."""
    sized_ladder(values, size)
    if not parts_places(values, size, crowds):
        raise BadCrowds(crowds)
    if not are_shown(crowds, shown):
        raise BadShown(shown)
    return loss_shown(values, crowds, shown)


def least_line(values, size):
    """(loss, crowds, shown) with the least loss; None if there are no crowds."""
    ladder = sized_ladder(values, size)
    if not has_crowds(values, size):
        return None
    stretches = ladder.least_stretches(size)
    crowds = tuple([ladder.crowd(begin, end) for begin, end in stretches])
    shown = tuple([ladder.middles(begin, end)[0] for begin, end in stretches])
    return (ladder.first_losses(size)[-1], crowds, shown)


def shows_line(values, size, value):
    """Whether any value is what least_line may return."""
    ladder = sized_ladder(values, size)
    if not has_crowds(values, size):
        return value is None
    if not is_tuple_of(value, 3):
        return False
    loss, crowds, shown = value
    if not parts_places(values, size, crowds) or not are_shown(crowds, shown):
        return False
    return is_integer(loss) and ladder.first_losses(size)[-1] == loss == loss_shown(values, crowds, shown)


def crowded_ladder(values, size):
    """The ladder of these values; raises BadValues, BadSize, then NoCrowds."""
    ladder = sized_ladder(values, size)
    if not has_crowds(values, size):
        raise NoCrowds(len(values))
    return ladder


def heights(values, size):
    """Numbers that show that no loss is less: none climbs by more than the loss of a stretch."""
    losses = crowded_ladder(values, size).first_losses(size)
    # No stretch ends where there are no crowds: such a place may be as high as any other one.
    highest = max([loss for loss in losses if loss is not None])
    return tuple([highest if loss is None else loss for loss in losses])


def shows_heights(values, size, value):
    """Whether any value is what heights may return."""
    ladder = crowded_ladder(values, size)
    many = len(values)
    if not is_tuple_of(value, many + 1) or not all([is_integer(height) for height in value]):
        return False
    if value[0] != 0 or value[many] != ladder.first_losses(size)[many]:
        return False
    for begin in range(many):
        for end in range(begin + size, many + 1):
            if value[end] - value[begin] > ladder.loss(begin, end):
                return False
    return True


def all_least(values):
    """The least losses for the sizes 1, 2, .. up to how many values there are."""
    ladder = ladder_of(values)
    return tuple([ladder.first_losses(size)[-1] for size in range(1, len(values) + 1)])


def greatest_size(values, loss):
    """The greatest size for which the least loss is at most this; 0 without values."""
    losses = all_least(values)
    if not is_integer(loss) or loss < 0:
        raise BadLoss(loss)
    return len([least for least in losses if least <= loss])


def cuts_many(values, size):
    """In how many ways the ascending values can be cut into stretches with the least loss."""
    ladder = sized_ladder(values, size)
    losses = ladder.first_losses(size)
    ways = [1]
    for end in range(1, len(values) + 1):
        least = [begin for begin in range(end - size + 1)
                 if losses[begin] is not None and losses[begin] + ladder.loss(begin, end) == losses[end]]
        ways.append(sum([ways[begin] for begin in least]))
    return ways[-1]


def one_more(values, size, value):
    """By how much the least loss is greater with this value, too."""
    sized_ladder(values, size)
    if not is_line_value(value):
        raise BadValue(value)
    if len(values) == MOST_VALUES:
        raise TooMany(MOST_VALUES)
    losses = crowded_ladder(values, size).first_losses(size)
    if not values and size > 1:
        raise NoCrowds(1)
    return Ladder(values + (value,)).first_losses(size)[-1] - losses[-1]
