"""By which offsets a plan rounds as asked, and by which its errors are least [F1] to [F3]."""

from stagecuts.bounds import MAX_SETS
from stagecuts.errors import TooMany, Unfit
from stagecuts.ratios import fraction_of, is_below, scaled, sum_of
from stagecuts.rounding import is_one_rounding, spread
from stagecuts.shares import stages_with_shares
from stagecuts.slips import product_of_divisors


def offsets_for(plan, fraction):
    """Return the offsets by which plan is the rounding that adds fraction; Unfit without any."""
    if is_below(fraction, (0, 1)) or not is_below(fraction, (1, 1)) or not is_one_rounding(plan):
        raise Unfit()
    found = stages_with_shares(plan)
    # Merged into one stage the plan has this offset; each stage holds one of its figures.
    # Of two that divide by more than 1 one stands beneath the other: the last holds the lowest.
    left = product_of_divisors(found) * fraction[0] // fraction[1]
    offsets = []
    for (divisor, _, _), share in reversed(found):
        left, figure = divmod(left, divisor)
        # Beneath an odd number of weights below 0 a stage cuts off upwards.
        offsets.append(figure if share[0] > 0 else divisor - 1 - figure)
    return tuple(offsets[::-1])


def best_offsets(plan):
    """Return the least bound that errors can keep to by some offsets, and such offsets."""
    found = stages_with_shares(plan)
    common = product_of_divisors(found)
    if common > MAX_SETS:
        raise TooMany(MAX_SETS)
    # The errors lie evenly about a middle, and are apart by the spread, whatever the offsets.
    # The middle times twice the product of all divisors is an integer.
    offsets_by_middle = {0: ()}
    for (divisor, _, _), (above, below) in found:
        unit = above * (common // (below * divisor))
        offsets_by_middle = {
            middle + unit * (2 * offset - divisor + 1): offsets + (offset,)
            for middle, offsets in offsets_by_middle.items()
            for offset in range(divisor)
        }
    nearest = min(list(offsets_by_middle), key=abs)
    error = sum_of([scaled(spread(plan), 1, 2), fraction_of(abs(nearest), 2 * common)])
    return (error, offsets_by_middle[nearest])
