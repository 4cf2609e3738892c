"""What other offsets, and steps of the inputs, change of what a plan tells [E1] to [E4]."""

from stagecuts.errors import Unfit
from stagecuts.kinds import is_integer
from stagecuts.plans import is_stage, with_offsets
from stagecuts.reaching import reach


def ends_of_change(thing, changed, steps):
    """Return the least and the greatest change of thing.

    changed is the same thing with the other offsets.
    """
    if not is_stage(thing):
        return steps[thing], steps[thing]
    divisor, offset, parts = thing
    _, new_offset, new_parts = changed
    least_sum = greatest_sum = new_offset - offset
    for (weight, beneath), (_, new_beneath) in zip(parts, new_parts):
        least, greatest = ends_of_change(beneath, new_beneath, steps)
        # A weight below 0 makes the least change beneath the greatest part of the sum.
        least_sum += min(weight * least, weight * greatest)
        greatest_sum += max(weight * least, weight * greatest)
    return least_sum // divisor, -(-greatest_sum // divisor)


def rests_by_change(thing, changed, steps):
    """Return a dict of all changes of thing, each with rests in order by which it comes.

    changed is the same thing with the other offsets; the rests are those of thing.
    """
    if not is_stage(thing):
        return {steps[thing]: ()}
    divisor, offset, parts = thing
    _, new_offset, new_parts = changed
    rests_by_sum = {new_offset - offset: ()}
    for (weight, beneath), (_, new_beneath) in zip(parts, new_parts):
        beneath_by_change = rests_by_change(beneath, new_beneath, steps)
        rests_by_sum = {
            ahead + weight * change: rests + rests_beneath
            for ahead, rests in rests_by_sum.items()
            for change, rests_beneath in beneath_by_change.items()
        }
    found = {}
    for total, rests in rests_by_sum.items():
        found[total // divisor] = (0,) + rests
        found[-(-total // divisor)] = (divisor - 1,) + rests
    return found


def least_change(plan, offsets, steps):
    """Return the least change by these offsets and steps at any row."""
    return ends_of_change(plan, with_offsets(plan, offsets), steps)[0]


def greatest_change(plan, offsets, steps):
    """Return the greatest change by these offsets and steps at any row."""
    return ends_of_change(plan, with_offsets(plan, offsets), steps)[1]


def all_changes(plan, offsets, steps):
    """Return the ascending tuple of all changes that come by these offsets and steps."""
    return tuple(sorted(rests_by_change(plan, with_offsets(plan, offsets), steps)))


def change_row(plan, offsets, steps, value):
    """Return a row at which the change is value; Unfit if value is none that comes."""
    if not is_integer(value):
        raise Unfit()
    found = rests_by_change(plan, with_offsets(plan, offsets), steps)
    if value not in found:
        raise Unfit()
    return reach(plan, found[value], 0)
