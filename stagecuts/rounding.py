"""Whether all stages of a plan together are one rounding, with a paper that shows it [D1], [D2]."""

from stagecuts.endrows import greatest_error_row, least_error_row
from stagecuts.kinds import is_row, is_tuple_of
from stagecuts.plans import inputs_of
from stagecuts.ratios import is_below, scaled, sum_of
from stagecuts.running import exact_of, told_by
from stagecuts.shares import stages_with_shares
from stagecuts.slips import greatest_slip, least_slip


def spread_of_stage(stage, share):
    """Return what a stage with this share adds to the spread."""
    return scaled((abs(share[0]), share[1]), stage[0] - 1, stage[0])


def spread(plan):
    """Return how far the greatest and the least error of plan are apart."""
    return sum_of([spread_of_stage(stage, share) for stage, share in stages_with_shares(plan)])


def is_one_rounding(plan):
    """Tell whether all stages of plan together are one rounding of its exact value."""
    return is_below(spread(plan), (1, 1))


def ends_of_fit(plan):
    """Return the fractions from which on, and below which, plan is the rounding that adds one.

    If plan is no rounding the first of them is not below the second, and none is between.
    """
    return greatest_slip(plan), sum_of([least_slip(plan), (1, 1)])


def are_turned(plan, first, second):
    """Tell whether plan puts the rows first and second the other way about."""
    if is_below(exact_of(plan, second), exact_of(plan, first)):
        return False
    return told_by(plan, first) > told_by(plan, second)


def rounding_paper(plan):
    """Return a paper: by which fractions plan is one rounding, or two rows that refute it."""
    if is_one_rounding(plan):
        low, high = ends_of_fit(plan)
        return ("one", low, high)
    return ("two", greatest_error_row(plan, 1), least_error_row(plan, 0))


def rounding_holds(plan, value):
    """Tell whether value, any value, is a paper of plan."""
    if not is_tuple_of(value, 3):
        return False
    word, first, second = value
    if word == "one":
        if not is_row(first, 2) or not is_row(second, 2):
            return False
        return (first, second) == ends_of_fit(plan) and is_one_rounding(plan)
    if word == "two":
        many = inputs_of(plan)
        return is_row(first, many) and is_row(second, many) and are_turned(plan, first, second)
    return False
