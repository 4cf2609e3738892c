"""Which errors a plan has: the least, the greatest, all of them [C2], [C5]."""

from stagecuts.bounds import MAX_SETS
from stagecuts.errors import TooMany
from stagecuts.ratios import fraction_of, scaled, sum_of
from stagecuts.shares import stages_with_shares


def slip_of_stage(stage, share, rest):
    """Return what a stage with this share adds to the error by this rest."""
    divisor, offset, _ = stage
    return scaled(share, offset - rest, divisor)


def ends_of_stage(stage, share):
    """Return the least and the greatest that a stage with this share adds to the error."""
    by_no_rest = slip_of_stage(stage, share, 0)
    by_greatest_rest = slip_of_stage(stage, share, stage[0] - 1)
    if share[0] > 0:
        return by_greatest_rest, by_no_rest
    return by_no_rest, by_greatest_rest


def least_slip(plan):
    """Return the least error that plan has at any row."""
    return sum_of([ends_of_stage(stage, share)[0] for stage, share in stages_with_shares(plan)])


def greatest_slip(plan):
    """Return the greatest error that plan has at any row."""
    return sum_of([ends_of_stage(stage, share)[1] for stage, share in stages_with_shares(plan)])


def product_of_divisors(found):
    """Return the product of the divisors of the stages found, pairs (stage, share)."""
    total = 1
    for stage, _ in found:
        total *= stage[0]
    return total


def all_slips(plan):
    """Return the ascending tuple of all errors of plan; TooMany if it has too many rests."""
    found = stages_with_shares(plan)
    common = product_of_divisors(found)
    if common > MAX_SETS:
        raise TooMany(MAX_SETS)
    # What a stage adds is a multiple of 1 / common, as its divisor and those of the stages
    # above it are divisors of common. So sums of integers, each times common, will do.
    sums = [0]
    for stage, share in found:
        slips = [slip_of_stage(stage, share, rest) for rest in range(stage[0])]
        steps = [above * (common // below) for above, below in slips]
        sums = sorted({ahead + step for ahead in sums for step in steps})
    return tuple([fraction_of(above, common) for above in sums])
