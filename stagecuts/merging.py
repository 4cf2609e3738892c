"""Stages merged into those above them, and plans joined to one another [G1], [G2], [G3]."""

from stagecuts.bounds import MAX_SIZE
from stagecuts.errors import TooMany, Unfit
from stagecuts.plans import inputs_of, is_stage, plan_error, ways_and_stages


def can_be_merged(weight, thing):
    """Tell whether thing is a stage that can be merged where it stands by this weight."""
    return is_stage(thing) and (thing[0] == 1 or abs(weight) == 1)


def weighted(parts, factor):
    """Return parts with their weights multiplied by factor."""
    return tuple([(weight * factor, thing) for weight, thing in parts])


def with_part(stage, place, parts):
    """Return stage with these parts in the place of its part at place."""
    divisor, offset, old_parts = stage
    return (divisor, offset, old_parts[:place] + parts + old_parts[place + 1:])


def merged_at(stage, place):
    """Return stage with the stage that is its part at place merged into it."""
    divisor, offset, parts = stage
    weight, (factor, offset_beneath, parts_beneath) = parts[place]
    # A stage that divides by 1 has the offset 0 either way, so it needs no case of its own.
    figure = offset_beneath if weight > 0 else factor - 1 - offset_beneath
    grown = (divisor * factor, figure + factor * offset, weighted(parts, factor))
    return with_part(grown, place, weighted(parts_beneath, weight))


def merged_once(stage):
    """Return stage with the first one beneath that can be merged merged; None if none can."""
    for place, (weight, thing) in enumerate(stage[2]):
        if can_be_merged(weight, thing):
            return merged_at(stage, place)
        if is_stage(thing):
            merged_beneath = merged_once(thing)
            if merged_beneath is not None:
                return with_part(stage, place, ((weight, merged_beneath),))
    return None


def is_within_bounds(plan):
    """Tell whether no divisor of plan, and no weight without its sign, is above MAX_SIZE."""
    for _, (divisor, _, parts) in ways_and_stages(plan, ()):
        if max([divisor] + [abs(weight) for weight, _ in parts]) > MAX_SIZE:
            return False
    return True


def merged(plan):
    """Return what comes of plan when no stage can be merged any more; TooMany if it is great."""
    last, following = plan, merged_once(plan)
    while following is not None:
        last, following = following, merged_once(following)
    # Sizes are looked at here alone: it is the end that counts.
    if not is_within_bounds(last):
        raise TooMany(MAX_SIZE)
    return last


def with_things(thing, things):
    """Return thing with one of things, by its number, in the place of each input."""
    if not is_stage(thing):
        return things[thing]
    divisor, offset, parts = thing
    return (divisor, offset, tuple([(weight, with_things(part, things)) for weight, part in parts]))


def joined(plan, place, other):
    """Return plan with other in the place of its input place; Unfit if that is no plan."""
    many = inputs_of(plan)
    if not 0 <= place < many:
        raise Unfit()
    behind = place + inputs_of(other)
    moved = with_things(other, list(range(place, behind)))
    numbers_behind = list(range(behind, behind + many - place - 1))
    whole = with_things(plan, list(range(place)) + [moved] + numbers_behind)
    if plan_error(whole) is not None:
        raise Unfit()
    return whole
