"""Rows at which a plan tells what is asked, by the rests that are asked [C3], [C4]."""

from math import gcd

from stagecuts.errors import Unfit
from stagecuts.kinds import is_integer
from stagecuts.plans import is_stage, stages_of


def common_of(numbers):
    """Return the greatest integer that divides all numbers."""
    common = 0
    for number in numbers:
        common = gcd(common, number)
    return common


def inverse_of(number, modulus):
    """Return what, times number, is 1 but for a multiple of modulus.

    No integer above 1 may divide both of them.
    """
    # Each left one is its factor times number, but for a multiple of modulus.
    left, next_left = number % modulus, modulus
    factor, next_factor = 1, 0
    while next_left != 0:
        times = left // next_left
        left, next_left = next_left, left - times * next_left
        factor, next_factor = next_factor, factor - times * next_factor
    return factor


def items_to_sum(weights, total):
    """Return the list of integers that come to total, each times its weight.

    The weights are those of a stage: no integer above 1 divides all of them.
    """
    items = []
    missing = total
    for place, weight in enumerate(weights[:-1]):
        # The weights behind come to multiples of this alone, so the others must be left to them.
        behind = common_of(weights[place + 1:])
        common = gcd(weight, behind)
        modulus = behind // common
        item = missing // common * inverse_of(weight // common, modulus) % modulus
        missing -= weight * item
        items.append(item)
    items.append(missing // weights[-1])
    return items


def items_reaching(thing, way, told, rest_at):
    """Return a dict of the inputs in thing and their items, so that it tells told.

    rest_at has the rest of each stage under its way.
    """
    if not is_stage(thing):
        return {thing: told}
    divisor, offset, parts = thing
    total = divisor * told + rest_at[way] - offset
    told_beneath = items_to_sum([weight for weight, _ in parts], total)
    items = {}
    for place, (_, beneath) in enumerate(parts):
        items.update(items_reaching(beneath, way + (place,), told_beneath[place], rest_at))
    return items


def reach(plan, rests, value):
    """Return a row at which plan tells value and its stages have these rests."""
    if not is_integer(value):
        raise Unfit()
    rest_at = {way: rest for way, rest in zip(stages_of(plan), rests)}
    items = items_reaching(plan, (), value, rest_at)
    return tuple([items[number] for number in range(len(items))])
