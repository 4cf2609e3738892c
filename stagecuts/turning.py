"""How far a plan puts rows the other way about, and what it is beside a rounding [D3], [D4]."""

from stagecuts.endrows import greatest_error_row, least_error_row
from stagecuts.ratios import is_below
from stagecuts.rounding import ends_of_fit, spread


def turned_by(plan):
    """Return the most that plan tells more of a row than of one whose exact value is no less."""
    above, below = spread(plan)
    return above // below


def turned_rows(plan):
    """Return two rows, the exact value of the first no greater, told apart by turned_by."""
    return (greatest_error_row(plan, turned_by(plan)), least_error_row(plan, 0))


def beside(plan, fraction):
    """Tell whether the rounding that adds fraction is never below plan, and whether never above."""
    low, high = ends_of_fit(plan)
    return (not is_below(fraction, low), is_below(fraction, high))
