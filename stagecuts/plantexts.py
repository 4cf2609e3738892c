"""The texts of plans, written and read [A6]."""

from stagecuts.bounds import MAX_DEEP, MAX_SIZE
from stagecuts.errors import BadText
from stagecuts.plans import is_stage, plan_error

FIGURES = "0123456789"


def text_of(thing):
    """Return the text of thing, an input or a stage."""
    if not is_stage(thing):
        return str(thing)
    divisor, offset, parts = thing
    part_texts = [f" {weight}*{text_of(beneath)}" for weight, beneath in parts]
    return f"({divisor} {offset}:" + "".join(part_texts) + ")"


def read_integer(text, begin):
    """Return the integer whose text begins at the place begin, and the place behind it."""
    first_figure = begin
    if text.startswith("-", begin):
        first_figure += 1
    end = first_figure
    while end < len(text) and text[end] in FIGURES:
        end += 1
    # Python does not read thousands of figures; no number of a plan has more than MAX_SIZE.
    if not 1 <= end - first_figure <= len(str(MAX_SIZE)):
        raise BadText()
    number = int(text[begin:end])
    # Python reads noughts ahead, and a sign ahead of nought, too.
    if str(number) != text[begin:end]:
        raise BadText()
    return number, end


def after(text, sign, place):
    """Return the place behind sign, which has to stand at this place of text."""
    if not text.startswith(sign, place):
        raise BadText()
    return place + len(sign)


def read_thing(text, begin, stages_above):
    """Return the thing whose text begins at the place begin, and the place behind it."""
    if not text.startswith("(", begin):
        return read_integer(text, begin)
    # No plan is deeper, and so thousands of brackets do not end in as many calls.
    if stages_above == MAX_DEEP:
        raise BadText()
    divisor, place = read_integer(text, begin + 1)
    offset, place = read_integer(text, after(text, " ", place))
    place = after(text, ":", place)
    parts = []
    while text.startswith(" ", place):
        weight, place = read_integer(text, place + 1)
        thing, place = read_thing(text, after(text, "*", place), stages_above + 1)
        parts.append((weight, thing))
    return (divisor, offset, tuple(parts)), after(text, ")", place)


def plan_text(plan):
    """Return the text of plan."""
    return text_of(plan)


def read_plan(value):
    """Return the plan of which value, any value, is the text; BadText if there is none."""
    if not isinstance(value, str):
        raise BadText()
    plan, end = read_thing(value, 0, 0)
    if end != len(value) or plan_error(plan) is not None:
        raise BadText()
    return plan
