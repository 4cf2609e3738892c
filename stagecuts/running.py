"""What a plan tells at a row, and what it would tell exactly [B1], [B2], [B3]."""

from stagecuts.plans import is_stage
from stagecuts.ratios import scaled, sum_of


def told_and_rests(thing, row):
    """Return what thing tells at row, and the list of its stages' rests, in order."""
    if not is_stage(thing):
        return row[thing], []
    divisor, offset, parts = thing
    whole = offset
    rests_beneath = []
    for weight, beneath in parts:
        told, rests = told_and_rests(beneath, row)
        whole += weight * told
        rests_beneath.extend(rests)
    told, rest = divmod(whole, divisor)
    return told, [rest] + rests_beneath


def exact_of_thing(thing, row):
    """Return as a fraction what thing comes to at row without offsets and cutting off."""
    if not is_stage(thing):
        return (row[thing], 1)
    divisor, _, parts = thing
    whole = sum_of([scaled(exact_of_thing(beneath, row), weight, 1) for weight, beneath in parts])
    return scaled(whole, 1, divisor)


def told_by(plan, row):
    """Return what plan tells at row."""
    return told_and_rests(plan, row)[0]


def rests_of(plan, row):
    """Return the tuple of the rests of all stages of plan at row, in order."""
    return tuple(told_and_rests(plan, row)[1])


def exact_of(plan, row):
    """Return the exact value of plan at row, a fraction."""
    return exact_of_thing(plan, row)


def error_of(plan, row):
    """Return what plan tells at row less its exact value there, a fraction."""
    return sum_of([(told_by(plan, row), 1), scaled(exact_of(plan, row), -1, 1)])
