"""How much of each stage, and of each input, goes into what a plan tells [B4]."""

from stagecuts.plans import is_stage
from stagecuts.ratios import scaled


def things_with_shares(thing, share):
    """Return the list of (thing, share) of thing and all beneath it, in order.

    An input's share is told, too: as a part it gets its share as a stage does.
    """
    found = [(thing, share)]
    if is_stage(thing):
        divisor, _, parts = thing
        for weight, beneath in parts:
            found.extend(things_with_shares(beneath, scaled(share, weight, divisor)))
    return found


def stages_with_shares(plan):
    """Return the list of (stage, share) of all stages of plan, in order."""
    found = things_with_shares(plan, (1, 1))
    return [(thing, share) for thing, share in found if is_stage(thing)]


def shares_of(plan):
    """Return the tuple of the shares of all stages of plan, in order."""
    return tuple([share for _, share in stages_with_shares(plan)])


def form_of(plan):
    """Return the tuple of the fractions by which the inputs go into the exact value."""
    found = things_with_shares(plan, (1, 1))
    share_of_input = {thing: share for thing, share in found if not is_stage(thing)}
    return tuple([share_of_input[number] for number in range(len(share_of_input))])
