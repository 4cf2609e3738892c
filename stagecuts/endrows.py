"""Rows with the greatest error of a plan, and rows with the least one [C5], [D4]."""

from stagecuts.reaching import reach
from stagecuts.shares import stages_with_shares


def greatest_error_row(plan, told):
    """Return a row with the greatest error of plan at which it tells told."""
    found = stages_with_shares(plan)
    return reach(plan, [0 if share[0] > 0 else stage[0] - 1 for stage, share in found], told)


def least_error_row(plan, told):
    """Return a row with the least error of plan at which it tells told."""
    found = stages_with_shares(plan)
    return reach(plan, [0 if share[0] < 0 else stage[0] - 1 for stage, share in found], told)
