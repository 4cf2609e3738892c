"""Plans: what is one, and which stages and inputs stand in it [A4], [A5]."""

from math import gcd

from stagecuts.bounds import MAX_DEEP, MAX_INPUTS, MAX_PARTS, MAX_SIZE, MAX_STAGES
from stagecuts.kinds import is_integer, is_tuple_of


def is_input(thing):
    """Tell whether thing, any value, is an input."""
    return is_integer(thing) and 0 <= thing < MAX_INPUTS


def is_stage(thing):
    """Tell whether a thing of a plan is a stage, so no input."""
    return isinstance(thing, tuple)


def has_stage_form(value):
    """Tell whether value is built as a stage is, whatever its numbers and things."""
    if not is_tuple_of(value, 3):
        return False
    parts = value[2]
    if not isinstance(parts, tuple) or not 1 <= len(parts) <= MAX_PARTS:
        return False
    return all(is_tuple_of(part, 2) for part in parts)


def is_divisor(value):
    """Tell whether value may be the divisor of a stage."""
    return is_integer(value) and 1 <= value <= MAX_SIZE


def is_offset(value, divisor):
    """Tell whether value may be the offset of a stage with this divisor."""
    return is_integer(value) and 0 <= value < divisor


def is_weight(value):
    """Tell whether value may be a weight, whatever the others of its stage."""
    return is_integer(value) and value != 0 and abs(value) <= MAX_SIZE


def are_weights(values):
    """Tell whether values may be the weights of one stage."""
    common = 0
    for value in values:
        if not is_weight(value):
            return False
        common = gcd(common, value)
    return common == 1


def fault_of(thing, way):
    """Return the word for what is wrong with thing itself, None if nothing is."""
    # A plan is a stage: without one around it an input is nothing.
    if way != () and is_input(thing):
        return None
    if not has_stage_form(thing):
        return "form"
    if len(way) >= MAX_DEEP:
        return "deep"
    divisor, offset, parts = thing
    if not is_divisor(divisor):
        return "divisor"
    if not is_offset(offset, divisor):
        return "offset"
    if not are_weights([part[0] for part in parts]):
        return "weights"
    return None


def first_fault(thing, way):
    """Return (word, way) of the first wrong one of thing and what is beneath, or None."""
    word = fault_of(thing, way)
    if word is not None:
        return (word, way)
    if not is_stage(thing):
        return None
    for place, (_, beneath) in enumerate(thing[2]):
        fault = first_fault(beneath, way + (place,))
        if fault is not None:
            return fault
    return None


def ways_and_stages(stage, way):
    """Return the list of (way, stage) of stage and all beneath it, in order."""
    found = [(way, stage)]
    for place, (_, thing) in enumerate(stage[2]):
        if is_stage(thing):
            found.extend(ways_and_stages(thing, way + (place,)))
    return found


def numbers_in(plan):
    """Return the list of the inputs of plan, as often as they stand in it."""
    numbers = []
    for _, stage in ways_and_stages(plan, ()):
        things = [part[1] for part in stage[2]]
        numbers.extend([thing for thing in things if not is_stage(thing)])
    return numbers


def plan_error(value):
    """Return what keeps value, any value, from being a plan; None if it is one."""
    fault = first_fault(value, ())
    if fault is not None:
        return fault
    if len(ways_and_stages(value, ())) > MAX_STAGES:
        return "many"
    numbers = numbers_in(value)
    if sorted(numbers) != list(range(len(numbers))):
        return "inputs"
    return None


def stages_of(plan):
    """Return the tuple of the ways of all stages of plan, in order."""
    return tuple([way for way, _ in ways_and_stages(plan, ())])


def inputs_of(plan):
    """Return how many inputs plan has."""
    return len(numbers_in(plan))


def offsets_of(plan):
    """Return the tuple of the offsets of all stages of plan, in order."""
    return tuple([stage[1] for _, stage in ways_and_stages(plan, ())])


def with_offsets_at(stage, way, offset_at):
    """Return stage with the offset that offset_at has for its way; so all beneath it."""
    divisor, _, parts = stage
    new_parts = []
    for place, (weight, thing) in enumerate(parts):
        if is_stage(thing):
            new_parts.append((weight, with_offsets_at(thing, way + (place,), offset_at)))
        else:
            new_parts.append((weight, thing))
    return (divisor, offset_at[way], tuple(new_parts))


def with_offsets(plan, offsets):
    """Return plan with these offsets, told in the order of its stages."""
    offset_at = {way: offset for way, offset in zip(stages_of(plan), offsets)}
    return with_offsets_at(plan, (), offset_at)
