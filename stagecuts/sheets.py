"""Sheets: a plan with the edits that changed it, and those taken back [H1] to [H3]."""

from stagecuts.bounds import MAX_EDITS
from stagecuts.errors import (
    BadLog,
    BadPlan,
    NothingToRedo,
    NothingToUndo,
    TooMany,
    TooManyEdits,
    Unfit,
)
from stagecuts.kinds import is_integer, is_row, is_tuple_of
from stagecuts.merging import joined, merged
from stagecuts.plans import inputs_of, is_offset, plan_error, ways_and_stages, with_offsets_at
from stagecuts.rounding import is_one_rounding
from stagecuts.running import told_by


def is_way(value):
    """Tell whether value is a tuple of integers, so built as a way is."""
    return isinstance(value, tuple) and is_row(value, len(value))


def with_offset(plan, way, offset):
    """Return plan with offset at the stage with this way; Unfit if they fit none."""
    stage_at = {stage_way: stage for stage_way, stage in ways_and_stages(plan, ())}
    if not is_way(way) or way not in stage_at:
        raise Unfit()
    if not is_offset(offset, stage_at[way][0]):
        raise Unfit()
    offset_at = {stage_way: stage[1] for stage_way, stage in stage_at.items()}
    offset_at[way] = offset
    return with_offsets_at(plan, (), offset_at)


def plan_joined(plan, place, other):
    """Return joined of these; Unfit if place is no integer, or other no plan, too."""
    if not is_integer(place) or plan_error(other) is not None:
        raise Unfit()
    return joined(plan, place, other)


class Sheet:
    """A plan that edits change, each of which can be taken back and done again."""

    def __init__(self, plan):
        error = plan_error(plan)
        if error is not None:
            raise BadPlan(error)
        # All plans from the first one on, and the edits between them; behind the one that
        # stands, by its version, are those that were taken back.
        self._plans = [plan]
        self._edits = []
        self._version = 0

    @property
    def plan(self):
        """The plan that stands."""
        return self._plans[self._version]

    @property
    def version(self):
        """How many edits stand."""
        return self._version

    @property
    def log(self):
        """The tuple of the edits that stand, in order."""
        return tuple(self._edits[:self._version])

    def _keep(self, edit, plan):
        """Keep edit, which makes plan of what stands; return the new version."""
        if self._version >= MAX_EDITS:
            raise TooManyEdits()
        self._edits = self._edits[:self._version] + [edit]
        self._plans = self._plans[:self._version + 1] + [plan]
        self._version += 1
        return self._version

    def put(self, way, offset):
        """Give the stage with this way this offset; return the new version."""
        return self._keep(("put", way, offset), with_offset(self.plan, way, offset))

    def join(self, place, other):
        """Put the plan other in the place of the input place; return the new version."""
        return self._keep(("join", place, other), plan_joined(self.plan, place, other))

    def merge(self):
        """Merge all stages that can be merged; return the new version."""
        return self._keep(("merge",), merged(self.plan))

    def undo(self):
        """Take the last edit back; return the version then."""
        if self._version == 0:
            raise NothingToUndo()
        self._version -= 1
        return self._version

    def redo(self):
        """Do again the edit that was taken back last; return the version then."""
        if self._version == len(self._edits):
            raise NothingToRedo()
        self._version += 1
        return self._version

    def told(self, row):
        """Return what the plan tells at row; Unfit if row is none of it."""
        if not is_row(row, inputs_of(self.plan)):
            raise Unfit()
        return told_by(self.plan, row)

    def one(self):
        """Tell whether the stages of the plan are one rounding."""
        return is_one_rounding(self.plan)


def do_edit(sheet, edit):
    """Do edit, any value, on sheet; Unfit if it is no edit."""
    if is_tuple_of(edit, 3) and edit[0] == "put":
        sheet.put(edit[1], edit[2])
    elif is_tuple_of(edit, 3) and edit[0] == "join":
        sheet.join(edit[1], edit[2])
    elif is_tuple_of(edit, 1) and edit[0] == "merge":
        sheet.merge()
    else:
        raise Unfit()


def sheet_behind(plan, log):
    """Return a new sheet of plan on which all edits of log were done."""
    sheet = Sheet(plan)
    if not isinstance(log, tuple):
        raise BadLog(0)
    for place, edit in enumerate(log):
        try:
            do_edit(sheet, edit)
        except (Unfit, TooMany, TooManyEdits):
            raise BadLog(place) from None
    return sheet
